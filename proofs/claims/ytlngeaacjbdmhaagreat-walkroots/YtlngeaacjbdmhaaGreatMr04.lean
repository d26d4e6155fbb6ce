/-
  What Join and Move leave.
-/
import Derived.Test.YtlngeaacjbdmhaaGreatMr03
import Derived.Shelf.LaysM
import Derived.Shelf.Strconv.Clone
import Derived.Shelf.Strings.Search1
import Derived.Shelf.Strings.Prefix
import Derived.Shelf.Strings.Builder1
import Derived.Test.YtlngeaacjbdmhaaGreatProg
import Derived.Test.YtlngeaacjbdmhaaGreatMr02
import Derived.Deep.Draws
import Derived.Lib.Bytealg
import Derived.Lib.Strings
import Derived.Laws.Strings3
import Derived.Laws.Externs
namespace Go.Proofs.YtlngeaacjbdmhaaGreat
open Go.RowKit Go.Maps
theorem Ab.along {T T' : Tr} : ∀ {l : List Int} {n : Int}, Ab T n l → (∀ k, k = n ∨ k ∈ l → T'.up k = T.up k) → Ab T' n l
  | [], n, g, h => by
    simp only [Ab] at g ⊢
    rw [h n (.inl rfl)]; exact g
  | u :: l, n, g, h => by
    obtain ⟨g1, g2, g3, g4⟩ := g
    exact ⟨by rw [h n (.inl rfl)]; exact g1, g2, g3, Ab.along g4 fun k hk => h k (.inr (List.mem_cons.2 hk))⟩
/-- All as it was but for one node, which has something above. -/
theorem Ab.but {T T' : Tr} {n : Int} {ln : List Int} (hn : Ab T' n ln) (h : ∀ k, k ≠ n → T'.up k = T.up k) : ∀ {l : List Int} {k : Int}, Ab T k l → ∃ l', Ab T' k l'
  | [], k, g => by
    by_cases e : k = n
    · subst e; exact ⟨ln, hn⟩
    · simp only [Ab] at g
      exact ⟨[], by simp only [Ab]; rw [h k e]; exact g⟩
  | u :: l, k, g => by
    by_cases e : k = n
    · subst e; exact ⟨ln, hn⟩
    · obtain ⟨g1, g2, g3, g4⟩ := g
      obtain ⟨l', hl'⟩ := Ab.but hn h g4
      exact ⟨u :: l', by rw [h k e]; exact g1, g2, g3, hl'⟩
section
variable {B : Nat} {T : Tr}
theorem Tr.give_rest {dir n : Int} {d x : Nd} (hd : T.nd dir = some d) (hx : T.nd n = some x) (s : ByteArray) : (T.give dir s n).made = T.made ∧ (T.give dir s n).most = T.most ∧ (T.give dir s n).pool = T.pool := by simp [Tr.give, hd, hx, Tr.set]
/-- A name more, of what is no Dir. -/
theorem Wf.give (hw : Wf B T) {dir n : Int} {d x : Nd} {s : ByteArray} (hd : T.nd dir = some d) (hdk : d.kind = 1) (hdn0 : 0 < d.names) (hx : T.nd n = some x) (hxk : x.kind ≠ 1) (hs : getE d.ins s = none) (hz : s.size ≤ 255) : Wf (B + 1) (T.give dir s n) ∧ ∀ k, (T.give dir s n).up k = T.up k := by
  have hdn : dir ≠ n := fun e => by subst e; rw [hd] at hx; cases hx; exact hxk hdk
  have hn1 : n ≠ 1 := fun e => by
    subst e
    obtain ⟨r, g1, g2, _⟩ := hw.root
    rw [hx] at g1; cases g1; exact hxk g2
  have hnd := Tr.give_nd hd hx s
  have hup : ∀ k, (T.give dir s n).up k = T.up k := fun k => by
    simp only [Tr.up, Tr.dir, hnd]
    by_cases e : k = n
    · rw [if_pos e, e, hx]; simp [Nd.named, hxk]
    · rw [if_neg e]
      by_cases e2 : k = dir
      · rw [if_pos e2, e2, hd]; simp [hdk]
      · rw [if_neg e2]
  have old : ∀ k z, (T.give dir s n).nd k = some z → ∃ z0, T.nd k = some z0 ∧ z.kind = z0.kind ∧ (z0.kind = 1 → z.names = z0.names ∧ z.up = z0.up) ∧ z0.names ≤ z.names ∧ z.holds = z0.holds ∧ (z.ins = z0.ins ∨ k = dir) := fun k z h => by
    rw [hnd] at h
    by_cases e : k = n
    · rw [if_pos e] at h; cases h
      exact ⟨x, by rw [e]; exact hx, rfl, fun h' => absurd h' hxk, Nat.le_succ _, rfl, .inl rfl⟩
    · rw [if_neg e] at h
      by_cases e2 : k = dir
      · rw [if_pos e2] at h; cases h
        exact ⟨d, by rw [e2]; exact hd, rfl, fun _ => ⟨rfl, rfl⟩, Nat.le_refl _, rfl, .inr e2⟩
      · rw [if_neg e2] at h
        exact ⟨z, h, rfl, fun _ => ⟨rfl, rfl⟩, Nat.le_refl _, rfl, .inl rfl⟩
  have keep : ∀ u z, T.nd u = some z → ∃ z', (T.give dir s n).nd u = some z' ∧ ∀ e ∈ z.ins, e ∈ z'.ins := fun u z hz => by
    rw [hnd]
    by_cases e : u = n
    · rw [if_pos e]; rw [e, hx] at hz; cases hz
      exact ⟨_, rfl, fun e he => he⟩
    · rw [if_neg e]
      by_cases e2 : u = dir
      · rw [if_pos e2]; rw [e2, hd] at hz; cases hz
        exact ⟨_, rfl, fun e he => putE_mem.2 (.inr he)⟩
      · rw [if_neg e2]; exact ⟨z, hz, fun e he => he⟩
  refine ⟨⟨hw.k.give hd hx hdn hs hz, ?_, fun k z h hk => ?_, fun k z h hk h1 hp => ?_, fun k z h hi => ?_, fun k z h hk => ?_, fun k z h => ?_⟩, hup⟩
  · obtain ⟨r, g1, g2, g3, g4⟩ := hw.root
    obtain ⟨z', w1, _⟩ := keep 1 r g1
    obtain ⟨z0, o1, o2, o3, _⟩ := old 1 z' w1
    rw [g1] at o1; cases o1
    obtain ⟨p1, p2⟩ := o3 g2
    exact ⟨z', w1, o2.trans g2, p1.trans g3, p2.trans g4⟩
  · obtain ⟨z0, o1, o2, o3, _⟩ := old k z h
    have hk0 := o2.symm.trans hk
    rw [(o3 hk0).1]; exact hw.one k z0 o1 hk0
  · obtain ⟨z0, o1, o2, o3, _⟩ := old k z h
    have hk0 := o2.symm.trans hk
    obtain ⟨p1, p2⟩ := o3 hk0
    obtain ⟨u1, d', s', u2, u3⟩ := hw.upd k z0 o1 hk0 h1 (by omega)
    rw [p2]
    obtain ⟨z', w1, w2⟩ := keep _ d' u2
    exact ⟨u1, z', s', w1, w2 _ u3⟩
  · obtain ⟨z0, o1, o2, o3, o4, o5, o6⟩ := old k z h
    rcases o6 with o6 | rfl
    · have := hw.emp k z0 o1 (by rw [← o6]; exact hi)
      exact ⟨o2.trans this.1, by omega⟩
    · rw [hd] at o1; cases o1
      exact ⟨o2.trans hdk, by omega⟩
  · obtain ⟨z0, o1, o2, _⟩ := old k z h
    obtain ⟨l, hl⟩ := hw.chn k z0 o1 (o2.symm.trans hk)
    exact ⟨l, hl.along fun k _ => hup k⟩
  · obtain ⟨z0, o1, o2, o3, o4, o5, _⟩ := old k z h
    have := hw.alv k z0 o1
    omega
theorem Tr.joinE0 {dir n : Int} {s : ByteArray} (h : T.joinE dir s n = 0) : ∃ d x, T.nd dir = some d ∧ d.kind = 1 ∧ T.nd n = some x ∧ x.kind ≠ 1 ∧ right s = true ∧ getE d.ins s = none ∧ 0 < d.names := by
  simp only [Tr.joinE] at h
  cases hx : T.dir dir with
  | none => rw [hx] at h; simp at h
  | some d =>
    cases hy : T.nd n with
    | none => rw [hx, hy] at h; simp at h
    | some x =>
      rw [hx, hy] at h
      simp only at h
      obtain ⟨h1, h2⟩ := Tr.dir_some.1 hx
      by_cases hr : x.kind ≠ 1 ∧ right s = true
      · rw [if_pos hr] at h
        by_cases hf : refusesE d s = 0
        · obtain ⟨g1, g2⟩ := refuses0 hf
          exact ⟨d, x, h1, h2, rfl, hr.1, hr.2, g1, g2⟩
        · rw [if_pos hf] at h; exact absurd h hf
      · rw [if_neg hr] at h; omega
theorem Wf.join (hw : Wf B T) (dir : Int) (s : ByteArray) (n : Int) : Wf (B + 1) (T.join dir s n) := by
  by_cases h : T.joinE dir s n = 0
  · obtain ⟨d, x, h1, h2, h3, h4, h5, h6, h7⟩ := Tr.joinE0 h
    rw [Tr.join, if_pos h]
    exact (hw.give h1 h2 h7 h3 h4 h6 (right_size h5)).1
  · rw [Tr.join, if_neg h]; exact hw.mono (Nat.le_succ B)
/-- One name ends, another begins. -/
theorem Tr.shift_nd {dir to n : Int} {d i x : Nd} {s s2 : ByteArray} (hd : T.nd dir = some d) (hg : getE d.ins s = some n) (hi : T.nd to = some i) (hS : Srt i.ins) (hs2 : getE i.ins s2 = none) (hx : T.nd n = some x) (hx0 : 0 < x.names) (hdn : dir ≠ n) (k : Int) :
    ((T.give to s2 n).take dir s).nd k = if k = n then some { x with up := if x.kind = 1 then to else x.up } else if k = dir then some { d with ins := delE (if dir = to then putE d.ins s2 n else d.ins) s } else if k = to then some { i with ins := putE i.ins s2 n } else T.nd k := by
  have hgn := Tr.give_nd hi hx s2
  have hx1 : (T.give to s2 n).nd n = some (x.named to) := by rw [hgn, if_pos rfl]
  have hd1 : (T.give to s2 n).nd dir = some { d with ins := if dir = to then putE d.ins s2 n else d.ins } := by
    rw [hgn, if_neg hdn]
    by_cases e : dir = to
    · rw [if_pos e, if_pos e]
      rw [e, hi] at hd; cases hd; rfl
    · rw [if_neg e, if_neg e]; exact hd
  have hg1 : getE (if dir = to then putE d.ins s2 n else d.ins) s = some n := by
    by_cases e : dir = to
    · rw [if_pos e]
      rw [e, hi] at hd; cases hd
      rw [putE_get hS hs2]
      split
      · rfl
      · exact hg
    · rw [if_neg e]; exact hg
  rw [Tr.take_nd hd1 hg1 hx1 hdn]
  by_cases e : k = n
  · rw [if_pos e, if_pos e, if_pos (by simp only [Nd.named]; omega)]
    simp [Nd.named]
  · rw [if_neg e, if_neg e]
    by_cases e2 : k = dir
    · rw [if_pos e2, if_pos e2]
    · rw [if_neg e2, if_neg e2, hgn, if_neg e]
theorem Wf.shift (hw : Wf B T) {dir to n : Int} {d i x : Nd} {s s2 : ByteArray} (hd : T.nd dir = some d) (hg : getE d.ins s = some n) (hi : T.nd to = some i) (hik : i.kind = 1) (hin : 0 < i.names) (hs2 : getE i.ins s2 = none) (hz : s2.size ≤ 255) (hx : T.nd n = some x) (htn : to ≠ n) (hch : x.kind = 1 → ∃ l, Ab T to l ∧ n ∉ l) : Wf (B + 1) ((T.give to s2 n).take dir s) := by
  have hmem := getE_some hg
  have hdn : dir ≠ n := fun e => by subst e; exact hw.noself hd hmem
  have hn1 : n ≠ 1 := fun e => by subst e; exact hw.noroot hd hmem
  have hx0 : 0 < x.names := by
    have h1 := cntE_pos hw.k hd hmem
    have h2 := hw.k.num n x hx
    simp only at h1
    omega
  have hSi := hw.k.srt to i hi
  have hSd := hw.k.srt dir d hd
  obtain ⟨hdk, hd0⟩ := hw.emp dir d hd (List.ne_nil_of_mem hmem)
  have hnd := fun k => Tr.shift_nd hd hg hi hSi hs2 hx hx0 hdn k
  have hgn := Tr.give_nd hi hx s2
  have hx1 : (T.give to s2 n).nd n = some (x.named to) := by rw [hgn, if_pos rfl]
  have hd1 : (T.give to s2 n).nd dir = some { d with ins := if dir = to then putE d.ins s2 n else d.ins } := by
    rw [hgn, if_neg hdn]
    by_cases e : dir = to
    · rw [if_pos e, if_pos e]
      rw [e, hi] at hd; cases hd; rfl
    · rw [if_neg e, if_neg e]; exact hd
  have hss : dir = to → s ≠ s2 := fun e e2 => by
    rw [e, hi] at hd; cases hd; rw [e2, hs2] at hg; cases hg
  have hg1 : getE (if dir = to then putE d.ins s2 n else d.ins) s = some n := by
    by_cases e : dir = to
    · have hs' := hss e
      rw [if_pos e]
      rw [e, hi] at hd; cases hd
      rw [putE_get hSi hs2, if_neg hs']
      exact hg
    · rw [if_neg e]; exact hg
  have hWk : Wk (B + 1) ((T.give to s2 n).take dir s) := by
    refine (hw.k.give hi hx htn hs2 hz).take hd1 hg1 hx1 hdn (fun h1 => ?_)
    simp only [Nd.named] at h1
    omega
  -- What lies in dir behind it.
  have hS1 : Srt (if dir = to then putE d.ins s2 n else d.ins) := by
    by_cases e : dir = to
    · rw [if_pos e]; rw [e, hi] at hd; cases hd; exact hSi.put hs2 n
    · rw [if_neg e]; exact hSd
  have hin1 : ∀ s' m, (s', m) ∈ d.ins → m ≠ n → (s', m) ∈ delE (if dir = to then putE d.ins s2 n else d.ins) s := fun s' m hm hmn => by
    refine (delE_mem hS1 hg1).2 ⟨?_, fun e => hmn ?_⟩
    · by_cases e : dir = to
      · rw [if_pos e]; exact putE_mem.2 (.inr hm)
      · rw [if_neg e]; exact hm
    · have := hSd.uniq hm hmem e
      simp at this; exact this.2
  have hto : ∃ z, ((T.give to s2 n).take dir s).nd to = some z ∧ (s2, n) ∈ z.ins := by
    rw [hnd, if_neg htn]
    by_cases e : to = dir
    · rw [if_pos e]
      refine ⟨_, rfl, (delE_mem hS1 hg1).2 ⟨?_, fun h' => hss e.symm h'.symm⟩⟩
      rw [if_pos e.symm]; exact putE_mem.2 (.inl rfl)
    · rw [if_neg e, if_pos rfl]
      exact ⟨_, rfl, putE_mem.2 (.inl rfl)⟩
  have old : ∀ k z, ((T.give to s2 n).take dir s).nd k = some z → ∃ z0, T.nd k = some z0 ∧ z.kind = z0.kind ∧ z.names = z0.names ∧ z.holds = z0.holds ∧ (k ≠ n → z.up = z0.up) ∧ (k = n → z.up = if x.kind = 1 then to else x.up) ∧ (z.ins = z0.ins ∨ (z0.kind = 1 ∧ 0 < z0.names)) := fun k z h => by
    rw [hnd] at h
    by_cases e : k = n
    · rw [if_pos e] at h; cases h
      exact ⟨x, by rw [e]; exact hx, rfl, rfl, rfl, fun h' => absurd e h', fun _ => rfl, .inl rfl⟩
    · rw [if_neg e] at h
      by_cases e2 : k = dir
      · rw [if_pos e2] at h; cases h
        exact ⟨d, by rw [e2]; exact hd, rfl, rfl, rfl, fun _ => rfl, fun h' => absurd h' e, .inr ⟨hdk, hd0⟩⟩
      · rw [if_neg e2] at h
        by_cases e3 : k = to
        · rw [if_pos e3] at h; cases h
          exact ⟨i, by rw [e3]; exact hi, rfl, rfl, rfl, fun _ => rfl, fun h' => absurd h' e, .inr ⟨hik, hin⟩⟩
        · rw [if_neg e3] at h
          exact ⟨z, h, rfl, rfl, rfl, fun _ => rfl, fun h' => absurd h' e, .inl rfl⟩
  have keep : ∀ u z, T.nd u = some z → ∃ z', ((T.give to s2 n).take dir s).nd u = some z' ∧ ∀ s' m, (s', m) ∈ z.ins → m ≠ n → (s', m) ∈ z'.ins := fun u z hz => by
    rw [hnd]
    by_cases e : u = n
    · rw [if_pos e]; rw [e, hx] at hz; cases hz
      exact ⟨_, rfl, fun s' m he _ => he⟩
    · rw [if_neg e]
      by_cases e2 : u = dir
      · rw [if_pos e2]; rw [e2, hd] at hz; cases hz
        exact ⟨_, rfl, hin1⟩
      · rw [if_neg e2]
        by_cases e3 : u = to
        · rw [if_pos e3]; rw [e3, hi] at hz; cases hz
          exact ⟨_, rfl, fun s' m he _ => putE_mem.2 (.inr he)⟩
        · rw [if_neg e3]; exact ⟨z, hz, fun s' m he _ => he⟩
  have hup : ∀ k, k ≠ n → ((T.give to s2 n).take dir s).up k = T.up k := fun k e => by
    simp only [Tr.up, Tr.dir, hnd, if_neg e]
    by_cases e2 : k = dir
    · rw [if_pos e2, e2, hd]; simp [hdk]
    · rw [if_neg e2]
      by_cases e3 : k = to
      · rw [if_pos e3, e3, hi]; simp [hik]
      · rw [if_neg e3]
  have hupn : x.kind = 1 → ((T.give to s2 n).take dir s).up n = to := fun hk => by
    simp only [Tr.up, Tr.dir, hnd, if_true, Option.bind_some]
    simp only [hk, if_true]
    rw [if_neg (by omega)]
  refine ⟨hWk, ?_, fun k z h hk => ?_, fun k z h hk h1 hp => ?_, fun k z h hz => ?_, fun k z h hk => ?_, fun k z h => ?_⟩
  · obtain ⟨r, g1, g2, g3, g4⟩ := hw.root
    obtain ⟨z', w1, _⟩ := keep 1 r g1
    obtain ⟨z0, o1, o2, o3, o4, o5, _⟩ := old 1 z' w1
    rw [g1] at o1; cases o1
    exact ⟨z', w1, o2.trans g2, o3.trans g3, (o5 (Ne.symm hn1)).trans g4⟩
  · obtain ⟨z0, o1, o2, o3, _⟩ := old k z h
    rw [o3]; exact hw.one k z0 o1 (o2.symm.trans hk)
  · obtain ⟨z0, o1, o2, o3, o4, o5, o6, _⟩ := old k z h
    by_cases e : k = n
    · have hk0 : x.kind = 1 := by rw [e, hx] at o1; cases o1; exact o2.symm.trans hk
      rw [o6 e, if_pos hk0, e]
      obtain ⟨z', w1, w2⟩ := hto
      exact ⟨htn, z', s2, w1, w2⟩
    · obtain ⟨u1, d', s', u2, u3⟩ := hw.upd k z0 o1 (o2.symm.trans hk) h1 (by omega)
      rw [o5 e]
      obtain ⟨z', w1, w2⟩ := keep _ d' u2
      exact ⟨u1, z', s', w1, w2 _ _ u3 e⟩
  · obtain ⟨z0, o1, o2, o3, o4, o5, o6, o7⟩ := old k z h
    rcases o7 with o7 | o7
    · have := hw.emp k z0 o1 (by rw [← o7]; exact hz)
      exact ⟨o2.trans this.1, by omega⟩
    · exact ⟨o2.trans o7.1, by omega⟩
  · obtain ⟨z0, o1, o2, _⟩ := old k z h
    obtain ⟨l, hl⟩ := hw.chn k z0 o1 (o2.symm.trans hk)
    by_cases hxk : x.kind = 1
    · obtain ⟨lt, t1, t2⟩ := hch hxk
      have hto0 : to ≠ 0 := by have := hw.k.key to i hi; omega
      have ht' := t1.along (T' := (T.give to s2 n).take dir s) fun k hk => hup k (fun e => by rcases hk with rfl | hk
                                                                                              · exact htn e
                                                                                              · exact t2 (by rw [← e]; exact hk))
      exact Ab.but (ln := to :: lt) ⟨hupn hxk, hto0, htn, ht'⟩ hup hl
    · have hupx : ((T.give to s2 n).take dir s).up n = T.up n := by
        simp only [Tr.up, Tr.dir, hnd, if_true, hx, Option.bind_some]
        simp only [hxk, if_false]
      exact ⟨l, hl.along fun k _ => by
        by_cases e : k = n
        · rw [e]; exact hupx
        · exact hup k e⟩
  · obtain ⟨z0, o1, o2, o3, o4, _⟩ := old k z h
    have := hw.alv k z0 o1
    omega
theorem Wf.ab (hw : Wf B T) (n : Int) : ∃ l, Ab T n l := by
  by_cases h : ∃ x, T.nd n = some x ∧ x.kind = 1
  · obtain ⟨x, h1, h2⟩ := h
    exact hw.chn n x h1 h2
  · exact ⟨[], .inl (Tr.up_no fun x h1 h2 => h ⟨x, h1, h2⟩)⟩
/-- What a Move that is done went by. -/
theorem Tr.moveE0 {l : List Int} {dir to : Int} {s s2 : ByteArray} (h : T.moveE l dir s to s2 = 0) : ∃ f i n, T.nd dir = some f ∧ f.kind = 1 ∧ T.nd to = some i ∧ i.kind = 1 ∧ right s2 = true ∧ getE f.ins s = some n ∧ 0 < i.names ∧ (T.kindOf n = 1 → to ≠ n ∧ n ∉ l) ∧ ((∃ old, getE i.ins s2 = some old ∧ (old = n ∨ (old ≠ n ∧ T.yieldsE old (decide (T.kindOf n = 1)) = 0))) ∨ getE i.ins s2 = none) := by
  simp only [Tr.moveE] at h
  cases hx : T.dir dir with
  | none => rw [hx] at h; simp at h
  | some f =>
    cases hy : T.dir to with
    | none => rw [hx, hy] at h; simp at h
    | some i =>
      rw [hx, hy] at h
      simp only at h
      obtain ⟨h1, h2⟩ := Tr.dir_some.1 hx
      obtain ⟨h3, h4⟩ := Tr.dir_some.1 hy
      by_cases hr : right s2 = true
      · rw [if_pos hr] at h
        cases hg : getE f.ins s with
        | none => rw [hg] at h; simp at h
        | some n =>
          rw [hg] at h
          simp only at h
          by_cases hn0 : i.names = 0
          · rw [if_pos hn0] at h; omega
          · rw [if_neg hn0] at h
            by_cases hk : T.kindOf n = 1 ∧ (to = n ∨ n ∈ l)
            · rw [if_pos hk] at h; omega
            · rw [if_neg hk] at h
              refine ⟨f, i, n, h1, h2, h3, h4, hr, hg, by omega, fun hk1 => ⟨fun e => hk ⟨hk1, .inl e⟩, fun e => hk ⟨hk1, .inr e⟩⟩, ?_⟩
              cases ho : getE i.ins s2 with
              | none => exact .inr rfl
              | some old =>
                rw [ho] at h
                simp only at h
                refine .inl ⟨old, rfl, ?_⟩
                by_cases e : old = n
                · exact .inl e
                · rw [if_neg e] at h; exact .inr ⟨e, h⟩
      · rw [if_neg hr] at h; omega
theorem Tr.yields0 {old : Int} {td : Bool} (h : T.yieldsE old td = 0) : T.insOf old = [] := by
  simp only [Tr.yieldsE] at h
  split at h
  · omega
  · split at h
    · omega
    · split at h
      · omega
      · exact List.eq_nil_of_length_eq_zero (by omega)
theorem Wf.move (hw : Wf B T) {l : List Int} (dir : Int) (s : ByteArray) (to : Int) (s2 : ByteArray) (hl : Ab T to l) : Wf (B + 1) (T.move l dir s to s2) := by
  by_cases h : T.moveE l dir s to s2 = 0
  · rw [Tr.move, if_pos h]
    obtain ⟨f, i, n, h1, h2, h3, h4, h5, h6, h7, h8, h9⟩ := Tr.moveE0 h
    obtain ⟨x, hx⟩ := hw.k.ent h1 (getE_some h6)
    simp only at hx
    have hf : getE (T.insOf dir) s = some n := by simp [Tr.insOf, h1, h6]
    have hio : T.insOf to = i.ins := by simp [Tr.insOf, h3]
    have hkx : T.kindOf n = x.kind := by simp [Tr.kindOf, hx]
    rw [hkx] at h8 h9
    have htn : to ≠ n := fun e => by
      have hxi : x = i := by rw [← e, h3] at hx; cases hx; rfl
      exact (h8 (by rw [hxi]; exact h4)).1 e
    have hch : x.kind = 1 → ∃ l, Ab T to l ∧ n ∉ l := fun hk => ⟨l, hl, (h8 hk).2⟩
    simp only [hf, hio]
    rcases h9 with ⟨old, g1, g2⟩ | g1
    · simp only [g1]
      rcases g2 with rfl | ⟨g2, g3⟩
      · rw [if_pos rfl]; exact hw.mono (Nat.le_succ B)
      · rw [if_neg g2]
        obtain ⟨y, hy⟩ := hw.k.ent h3 (getE_some g1)
        simp only at hy
        have hyi : y.ins = [] := by have := Tr.yields0 g3; simpa [Tr.insOf, hy] using this
        have hto : to ≠ old := fun e => by subst e; exact hw.noself h3 (getE_some g1)
        have hdo : dir ≠ old := fun e => by
          rw [← e, h1] at hy; cases hy
          have := getE_some h6
          rw [hyi] at this; simp at this
        have hnd := Tr.take_nd h3 g1 hy hto
        obtain ⟨T1, T2, T3⟩ := hw.take h3 g1 hy hyi
        have hSi := hw.k.srt to i h3
        have e1 : (T.take to s2).nd to = some { i with ins := delE i.ins s2 } := by rw [hnd, if_neg hto, if_pos rfl]
        have e2 : (T.take to s2).nd n = some x := by rw [hnd, if_neg (Ne.symm g2), if_neg (Ne.symm htn)]; exact hx
        have e3 : ∃ f1, (T.take to s2).nd dir = some f1 ∧ getE f1.ins s = some n := by
          rw [hnd, if_neg hdo]
          by_cases e : dir = to
          · rw [if_pos e]
            rw [e, h3] at h1; cases h1
            refine ⟨_, rfl, ?_⟩
            simp only
            rw [delE_get hSi g1, if_neg]
            · exact h6
            · intro e'; rw [e', g1] at h6; cases h6; exact g2 rfl
          · rw [if_neg e]; exact ⟨f, h1, h6⟩
        obtain ⟨f1, e3, e4⟩ := e3
        refine T1.shift e3 e4 e1 h4 h7 (by simp only; rw [delE_get hSi g1, if_pos rfl]) (right_size h5) e2 htn fun hk => ?_
        obtain ⟨l', t1, t2⟩ := hch hk
        exact ⟨l', Ab.congr (fun k => k ≠ old) T2 (fun k hk _ => T3 k hk) hto t1, t2⟩
    · simp only [g1]
      exact hw.shift h1 h6 h3 h4 h7 g1 (right_size h5) hx htn hch
  · rw [Tr.move, if_neg h]; exact hw.mono (Nat.le_succ B)
end
end Go.Proofs.YtlngeaacjbdmhaaGreat

namespace Go.Proofs.YtlngeaacjbdmhaaGreat
open Go.Shelf
def Tryz.laysM316_ren : Go.Shelf.Ren := ⟨fun | 316 => 209 | n => n, fun | 9 => 9 | 3 => 3 | 4 => 4 | 37 => 34 | 0 => 0 | 127 => 304 | 5 => 5 | n => n, fun | n => n⟩
theorem Tryz.laysM316 : Go.Proofs.LaysM.n316 Tryz.prog Tryz.laysM316_ren := {
  mixed := by kernel_rfl
  f316 := Tryz.func209.trans (congrArg some (by kernel_rfl))
  t0 := Tryz.underlying0
  a0 := Tryz.isAgg0
  z0 := Tryz.sizeOf0
  v0 := Tryz.zeroValue0
  t3 := Tryz.underlying3
  a3 := Tryz.isAgg3
  z3 := Tryz.sizeOf3
  v3 := Tryz.zeroValue3
  t4 := Tryz.underlying4
  a4 := Tryz.isAgg4
  z4 := Tryz.sizeOf4
  v4 := Tryz.zeroValue4
  t9 := Tryz.underlying9
  a9 := Tryz.isAgg9
  z9 := Tryz.sizeOf9
  v9 := Tryz.zeroValue9
  t37 := Tryz.underlying34
  a37 := Tryz.isAgg34
  z37 := Tryz.sizeOf34
  v37 := Tryz.zeroValue34
  t127 := Tryz.underlying304
  a127 := Tryz.isAgg304
  z127 := Tryz.sizeOf304
  v127 := Tryz.zeroValue304
  t5 := Tryz.underlying5
  a5 := Tryz.isAgg5
  z5 := Tryz.sizeOf5
  v5 := Tryz.zeroValue5
  i0 := by kernel_rfl
  i3 := by kernel_rfl
  i4 := by kernel_rfl
  i5 := by kernel_rfl
  i9 := by kernel_rfl
  i37 := by kernel_rfl
  i127 := by kernel_rfl }
def Tryz.lays217_ren : Go.Shelf.Ren := ⟨fun | 217 => 316 | 266 => 328 | n => n, fun | 9 => 9 | 5 => 5 | 3 => 3 | n => n, fun | n => n⟩
theorem Tryz.lays217 : Go.Proofs.Lays.n217 Tryz.prog Tryz.lays217_ren := {
  mixed := by kernel_rfl
  f217 := Tryz.func316.trans (congrArg some (by kernel_rfl))
  f266 := Tryz.func328.trans (congrArg some (by kernel_rfl))
  t3 := Tryz.underlying3
  a3 := Tryz.isAgg3
  z3 := Tryz.sizeOf3
  v3 := Tryz.zeroValue3
  t5 := Tryz.underlying5
  a5 := Tryz.isAgg5
  z5 := Tryz.sizeOf5
  v5 := Tryz.zeroValue5
  t9 := Tryz.underlying9
  a9 := Tryz.isAgg9
  z9 := Tryz.sizeOf9
  v9 := Tryz.zeroValue9 }
def Tryz.lays169_ren : Go.Shelf.Ren := ⟨fun | 169 => 314 | n => n, fun | 70 => 333 | 9 => 9 | 0 => 0 | 72 => 335 | 37 => 34 | 127 => 304 | 3 => 3 | 5 => 5 | n => n, fun | n => n⟩
theorem Tryz.lays169 : Go.Proofs.Lays.n169 Tryz.prog Tryz.lays169_ren := {
  mixed := by kernel_rfl
  f169 := Tryz.func314.trans (congrArg some (by kernel_rfl))
  t0 := Tryz.underlying0
  a0 := Tryz.isAgg0
  z0 := Tryz.sizeOf0
  v0 := Tryz.zeroValue0
  t3 := Tryz.underlying3
  a3 := Tryz.isAgg3
  z3 := Tryz.sizeOf3
  v3 := Tryz.zeroValue3
  t9 := Tryz.underlying9
  a9 := Tryz.isAgg9
  z9 := Tryz.sizeOf9
  v9 := Tryz.zeroValue9
  t37 := Tryz.underlying34
  a37 := Tryz.isAgg34
  z37 := Tryz.sizeOf34
  v37 := Tryz.zeroValue34
  t70 := Tryz.underlying333
  a70 := Tryz.isAgg333
  z70 := Tryz.sizeOf333
  v70 := Tryz.zeroValue333
  t72 := Tryz.underlying335
  a72 := Tryz.isAgg335
  z72 := Tryz.sizeOf335
  v72 := Tryz.zeroValue335
  t127 := Tryz.underlying304
  a127 := Tryz.isAgg304
  z127 := Tryz.sizeOf304
  v127 := Tryz.zeroValue304 }
def Tryz.lays99_ren : Go.Shelf.Ren := ⟨fun | 99 => 229 | 206 => 287 | n => n, fun | 9 => 9 | 4 => 4 | 3 => 3 | n => n, fun | n => n⟩
theorem Tryz.lays99 : Go.Proofs.Lays.n99 Tryz.prog Tryz.lays99_ren := {
  mixed := by kernel_rfl
  f99 := Tryz.func229.trans (congrArg some (by kernel_rfl))
  f206 := Tryz.func287.trans (congrArg some (by kernel_rfl))
  t3 := Tryz.underlying3
  a3 := Tryz.isAgg3
  z3 := Tryz.sizeOf3
  v3 := Tryz.zeroValue3
  t4 := Tryz.underlying4
  a4 := Tryz.isAgg4
  z4 := Tryz.sizeOf4
  v4 := Tryz.zeroValue4
  t9 := Tryz.underlying9
  a9 := Tryz.isAgg9
  z9 := Tryz.sizeOf9
  v9 := Tryz.zeroValue9 }
def Tryz.lays100_ren : Go.Shelf.Ren := ⟨fun | 100 => 230 | 207 => 288 | n => n, fun | 9 => 9 | 4 => 4 | 3 => 3 | n => n, fun | n => n⟩
theorem Tryz.lays100 : Go.Proofs.Lays.n100 Tryz.prog Tryz.lays100_ren := {
  mixed := by kernel_rfl
  f100 := Tryz.func230.trans (congrArg some (by kernel_rfl))
  f207 := Tryz.func288.trans (congrArg some (by kernel_rfl))
  t3 := Tryz.underlying3
  a3 := Tryz.isAgg3
  z3 := Tryz.sizeOf3
  v3 := Tryz.zeroValue3
  t4 := Tryz.underlying4
  a4 := Tryz.isAgg4
  z4 := Tryz.sizeOf4
  v4 := Tryz.zeroValue4
  t9 := Tryz.underlying9
  a9 := Tryz.isAgg9
  z9 := Tryz.sizeOf9
  v9 := Tryz.zeroValue9 }
open Go.RowKit in
theorem Tryz.stringslite_Clone (s : ByteArray) (w : World) (hlim : s.size ≤ 281474976710656) :
    Calls Tryz.prog 209 #[.string s] w fun e w' => e = .returned (.string s) ∧ Below w.heap.size w w' := Any.stringslite_Clone Tryz.laysM316 s w hlim
open Go.RowKit Go.Lib in
theorem Tryz.stringslite_IndexByte (s : ByteArray) (c : Int) (w : World) :
    Calls Tryz.prog 316 #[.string s, .int .u8 c] w fun e w' => e = .returned (.int .i64 (Lib.indexByte s.data.toList c.toNat.toUInt8)) ∧ w' = w := Any.stringslite_IndexByte Tryz.lays217 s c w
theorem Tryz.Builder_Extra_169 : Builder.Extra Tryz.prog Tryz.lays169_ren := {
  sizeBuilder := by kernel_rfl
  liesBuilder := by kernel_rfl
  t5 := Tryz.underlying5
  a5 := Tryz.isAgg5
  z5 := Tryz.sizeOf5
  v5 := Tryz.zeroValue5
  infoByte := by kernel_rfl
  cellsByte := by kernel_rfl
  sizeByte := by kernel_rfl
  neB5 := by decide }
open Go.RowKit in
theorem Tryz.Builder_String_any (B b : Nat) (l : List UInt8) (w : World) (h : Lib.IsBuilder 335 5 B b (Lib.byteCells l) w) (hBw : B ≤ w.heap.size) :
    Calls Tryz.prog 314 #[.pointer (some ⟨b, 0, none⟩)] w fun e w' => e = .returned (.string ⟨l.toArray⟩) ∧ Below B w w' := Any.Builder_String_any Tryz.lays169 Tryz.Builder_Extra_169 B b l w h hBw
open Go.RowKit Go.Lib in
theorem Tryz.strings_HasPrefix (s p : ByteArray) (w : World) :
    Calls Tryz.prog 229 #[.string s, .string p] w fun e w' => e = .returned (.bool (Lib.hasPrefix s.data.toList p.data.toList)) ∧ w' = w := Any.strings_HasPrefix Tryz.lays99 s p w
open Go.RowKit Go.Lib in
theorem Tryz.strings_HasSuffix (s p : ByteArray) (w : World) (hs : s.size ≤ 9223372036854775807) :
    Calls Tryz.prog 230 #[.string s, .string p] w fun e w' => e = .returned (.bool (Lib.hasSuffix s.data.toList p.data.toList)) ∧ w' = w := Any.strings_HasSuffix Tryz.lays100 s p w hs
end Go.Proofs.YtlngeaacjbdmhaaGreat

namespace Go.Proofs.YtlngeaacjbdmhaaGreat
open Go.RowKit
attribute [local go_sem ↓] Go.wp_at_zero Go.wp_at_succ
abbrev bs (l : List UInt8) : ByteArray := ⟨l.toArray⟩
abbrev Sl' (l : List UInt8) : Value := .string (bs l)
set_option maxRecDepth 100000 in
set_option maxHeartbeats 2000000 in
theorem index_one (s : ByteArray) (c : UInt8) (w : World) :
    Calls Tryz.prog 299 #[.string s, .string ⟨#[c]⟩] w fun e w' => e = .returned (.int .i64 (Lib.indexByte s.data.toList c)) ∧ w' = w := by
  go_enter Tryz.func299, Tryz.ntmps299
  go_wp2_with (go_at_call 316; refine (Tryz.stringslite_IndexByte _ _ _).mono ?_; rintro e w' ⟨rfl, rfl⟩)
  · have h : ([c] == s.toList) = true := by assumption
    go_ret
    refine ⟨?_, rfl⟩
    have e : s.data.toList = [c] := by rw [← Lib.toList_data]; exact (beq_iff_eq.1 h).symm
    rw [e]
    simp [Lib.indexByte]
  · go_ret
    exact ⟨rfl, rfl⟩
set_option maxHeartbeats 1000000 in
theorem index2_one (s : ByteArray) (c : UInt8) (w : World) :
    Calls Tryz.prog 277 #[.string s, .string ⟨#[c]⟩] w fun e w' => e = .returned (.int .i64 (Lib.indexByte s.data.toList c)) ∧ w' = w := by
  go_enter Tryz.func277, Tryz.ntmps277
  go_wp2_with (go_at_call 299; refine (index_one _ _ _).mono ?_; rintro e w' ⟨rfl, rfl⟩)
  go_ret
  exact ⟨rfl, rfl⟩
theorem indexByte_mem (l : List UInt8) (c : UInt8) : (0 ≤ Lib.indexByte l c) ↔ c ∈ l := by
  induction l with
  | nil => simp [Lib.indexByte]
  | cons b r ih =>
    have hg := Lib.indexByte_ge r c
    unfold Lib.indexByte
    by_cases hb : b = c
    · subst hb; simp
    · have hb2 : ¬ c = b := Ne.symm hb
      by_cases h1 : Lib.indexByte r c = -1
      · have : c ∉ r := by rw [← ih]; omega
        simp [hb, h1, hb2, this]
      · have : c ∈ r := by rw [← ih]; omega
        simp [hb, h1, this]; omega
set_option maxHeartbeats 1000000 in
theorem contains_one (s : ByteArray) (c : UInt8) (w : World) :
    Calls Tryz.prog 211 #[.string s, .string ⟨#[c]⟩] w fun e w' => e = .returned (.bool (decide (c ∈ s.data.toList))) ∧ w' = w := by
  go_enter Tryz.func211, Tryz.ntmps211
  go_wp2_with (go_at_call 277; refine (index2_one _ _ _).mono ?_; rintro e w' ⟨rfl, rfl⟩)
  go_ret
  refine ⟨?_, rfl⟩
  have := indexByte_mem s.data.toList c
  simp only [this]
  rfl
set_option maxHeartbeats 1000000 in
theorem dots_l (l : List UInt8) (w : World) : Calls Tryz.prog 210 #[Sl' l] w fun e w' => e = .returned (.bool (dots l)) ∧ w' = w := by
  go_enter Tryz.func210, Tryz.ntmps210
  go_wp2
  all_goals (go_ret; refine ⟨?_, rfl⟩; simp_all [dots])
set_option maxHeartbeats 1000000 in
theorem right_l (l : List UInt8) (w : World) : Calls Tryz.prog 121 #[Sl' l] w fun e w' => e = .returned (.bool (right (bs l))) ∧ w' = w := by
  by_cases hd : dots l = true
  · have hr : right (bs l) = false := by simp [right, hd]
    rw [hr]
    go_enter Tryz.func121, Tryz.ntmps121
    go_wp2_with (first | (go_at_call 211; refine (contains_one _ _ _).mono ?_; rintro e w' ⟨rfl, rfl⟩) | (go_at_call 210; refine (dots_l _ _).mono ?_; rintro e w' ⟨rfl, rfl⟩; rw [hd]))
    all_goals (go_ret; exact ⟨rfl, rfl⟩)
  · replace hd : dots l = false := by simpa using hd
    by_cases h0 : l = []
    · have hr : right (bs l) = false := by simp [right, h0]
      rw [hr]; subst h0
      go_enter Tryz.func121, Tryz.ntmps121
      go_wp2_with fail
      go_ret; exact ⟨rfl, rfl⟩
    · have h1 : l.isEmpty = false := by simpa using h0
      by_cases h2 : 255 < l.length
      · have hr : right (bs l) = false := by simp [right, h2]
        have h3 : (255 : Int) < (l.length : Int) := by omega
        rw [hr]
        go_enter Tryz.func121, Tryz.ntmps121
        go_wp2_with fail
        all_goals (go_ret; refine ⟨?_, rfl⟩; first | rfl | simp_all)
      · have hr : right (bs l) = (!decide ((47 : UInt8) ∈ l) && !decide ((0 : UInt8) ∈ l)) := by simp [right, h2, hd, h1]
        have h3 : ¬ (255 : Int) < (l.length : Int) := by omega
        rw [hr]
        clear hr
        go_enter Tryz.func121, Tryz.ntmps121
        go_wp2_with (first | (go_at_call 211; refine (contains_one _ _ _).mono ?_; rintro e w' ⟨rfl, rfl⟩) | (go_at_call 210; refine (dots_l _ _).mono ?_; rintro e w' ⟨rfl, rfl⟩; rw [hd]))
        all_goals (go_ret; refine ⟨?_, rfl⟩; first | rfl | simp_all)
theorem right_any (s : ByteArray) (w : World) : Calls Tryz.prog 121 #[.string s] w fun e w' => e = .returned (.bool (right s)) ∧ w' = w := right_l s.data.toList w
set_option maxHeartbeats 1000000 in
theorem clone_any (s : ByteArray) (w : World) (hs : s.size ≤ 281474976710656) :
    Calls Tryz.prog 119 #[.string s] w fun e w' => e = .returned (.string s) ∧ Below w.heap.size w w' := by
  go_enter Tryz.func119, Tryz.ntmps119
  go_wp2_with (go_at_call 209; refine (Tryz.stringslite_Clone _ _ hs).mono ?_; rintro e w' ⟨rfl, hB⟩)
  go_ret
  exact ⟨rfl, hB⟩
set_option maxRecDepth 100000 in
set_option maxHeartbeats 1000000 in
theorem compare_any (a b : ByteArray) (w : World) : Calls Tryz.prog 298 #[.string a, .string b] w fun e w' => e = .returned (.int .i64 (cmpS a b)) ∧ w' = w := by
  go_enter Tryz.func298, Tryz.ntmps298
  go_wp2_with fail
  rw [run_callFunc_extern Tryz.func315 (by kernel_rfl) (by kernel_rfl) (by kernel_rfl) (e := Extern.BytealgCompare.compare) (by kernel_rfl), Lib.run_compareString]
  simp only [Result.andThen]
  rw [Oper.upon_value]
  go_wp2_with fail
  go_ret
  exact ⟨rfl, rfl⟩
theorem compare2_any (a b : ByteArray) (w : World) : Calls Tryz.prog 276 #[.string a, .string b] w fun e w' => e = .returned (.int .i64 (cmpS a b)) ∧ w' = w := by
  go_enter Tryz.func276, Tryz.ntmps276
  go_wp2_with (go_at_call 298; refine (compare_any _ _ _).mono ?_; rintro e w' ⟨rfl, rfl⟩)
  go_ret
  exact ⟨rfl, rfl⟩
theorem place1_any (a : ByteArray) (n : Int) (s : ByteArray) (w : World) : Calls Tryz.prog 275 #[.agg #[.string a, .int .i64 n], .string s] w fun e w' => e = .returned (.int .i64 (cmpS a s)) ∧ w' = w.alloc (.cells #[.string a, .int .i64 n] 256) := by
  go_enter Tryz.func275, Tryz.ntmps275
  go_wp2_with (go_at_call 276; refine (compare2_any _ _ _).mono ?_; rintro e w' ⟨rfl, rfl⟩)
  go_ret
  exact ⟨rfl, rfl⟩
set_option maxHeartbeats 1000000 in
theorem fits_any (k : Int) (t : ByteArray) (w : World) : Calls Tryz.prog 122 #[.int .i64 k, .string t] w fun e w' => e = .returned (.bool (fitsB k t)) ∧ w' = w := by
  have ht : t.toList.isEmpty = decide (t = ⟨#[]⟩) := by
    rw [Lib.toList_data]
    by_cases h : t = ⟨#[]⟩
    · subst h; rfl
    · have : ¬ t.data = #[] := fun e => h (bytes_ext (by rw [e]))
      simp [h, this]
  unfold fitsB
  by_cases h1 : k = 1
  · subst h1
    go_enter Tryz.func122, Tryz.ntmps122
    go_wp2_with fail
    all_goals (go_ret; refine ⟨?_, rfl⟩; simp_all)
  · by_cases h2 : k = 2
    · subst h2
      go_enter Tryz.func122, Tryz.ntmps122
      go_wp2_with fail
      all_goals (go_ret; refine ⟨?_, rfl⟩; simp_all)
    · by_cases h3 : k = 3
      · subst h3
        go_enter Tryz.func122, Tryz.ntmps122
        go_wp2_with fail
        all_goals (go_ret; refine ⟨?_, rfl⟩; simp_all)
      · go_enter Tryz.func122, Tryz.ntmps122
        go_wp2_with fail
        all_goals (go_ret; refine ⟨?_, rfl⟩; simp_all)
end Go.Proofs.YtlngeaacjbdmhaaGreat

namespace Go.Proofs.YtlngeaacjbdmhaaGreat
open Go.RowKit
/-- Rows of one length, one behind the other. -/
def rowsOf {α : Type} (r : α → List Value) (ms : List α) : List Value := ms.flatMap r
theorem rowsOf_length {α : Type} (r : α → List Value) (k : Nat) (hr : ∀ x, (r x).length = k) (ms : List α) : (rowsOf r ms).length = k * ms.length := by
  induction ms with
  | nil => rfl
  | cons x l ih => simp only [rowsOf, List.flatMap_cons, List.length_append, List.length_cons] at *; rw [ih, hr, Nat.mul_succ]; omega
theorem rowsOf_get {α : Type} (r : α → List Value) (k : Nat) (hr : ∀ x, (r x).length = k) (ms : List α) (i f : Nat) (M : α) (hi : ms[i]? = some M) (hf : f < k) : (rowsOf r ms)[k * i + f]? = (r M)[f]? := by
  induction ms generalizing i with
  | nil => simp at hi
  | cons x l ih =>
    simp only [rowsOf, List.flatMap_cons]
    cases i with
    | zero => simp at hi; subst hi; rw [List.getElem?_append_left (by rw [hr]; omega)]; simp
    | succ j =>
      have := ih j (by simpa using hi)
      rw [List.getElem?_append_right (by rw [hr, Nat.mul_succ]; omega), hr, ← this]
      rw [Nat.mul_succ, show k * j + k + f - k = k * j + f by omega]; rfl
theorem rowsOf_set {α : Type} (r : α → List Value) (k : Nat) (hr : ∀ x, (r x).length = k) (ms : List α) (i f : Nat) (M M' : α) (v : Value) (hi : ms[i]? = some M) (hf : f < k) (he : r M' = (r M).set f v) :
    (rowsOf r ms).set (k * i + f) v = rowsOf r (ms.set i M') := by
  induction ms generalizing i with
  | nil => simp at hi
  | cons x l ih =>
    simp only [rowsOf, List.flatMap_cons]
    cases i with
    | zero => simp at hi; subst hi; rw [List.set_append_left _ _ (by rw [hr]; omega)]; simp [he]
    | succ j =>
      have := ih j (by simpa using hi)
      rw [List.set_append_right _ _ (by rw [hr, Nat.mul_succ]; omega), hr]
      rw [Nat.mul_succ, show k * j + k + f - k = k * j + f by omega]
      simp only [rowsOf] at this
      simp [this]
theorem rowsOf_append {α : Type} (r : α → List Value) (xs ys : List α) : rowsOf r (xs ++ ys) = rowsOf r xs ++ rowsOf r ys := by simp [rowsOf]
theorem get_set {α : Type} {xs : List α} {i : Nat} {x : α} (hi : xs[i]? = some x) (y : α) : (xs.set i y)[i]? = some y := by
  have := (List.getElem?_eq_some_iff.1 hi).1
  simp [this]
theorem own_ne {W : World} {base : Nat} {e : TypeId} {s n k : Nat} {v : Value} {xs : List Value} {o : Obj} (h : W.ownsRow base e s v n xs) (ho : W.heap[k]? = some o) (hne : ∀ cur, o ≠ .cells cur e (0, 0)) : some k ≠ v.ownBlock := by
  obtain ⟨-, ⟨rfl, hz⟩ | ⟨g, cap, cur, rfl, hgb, hgg, hcap, hcm, hcs, htk⟩⟩ := h
  · simp [Value.ownBlock]
  · simp only [Value.ownBlock, ne_eq, Option.some.injEq]
    rintro rfl
    rw [hgg] at ho
    exact hne cur (Option.some.inj ho).symm
theorem own_keep {W W' : World} {base : Nat} {e : TypeId} {s n : Nat} {v : Value} {xs : List Value} (h : W.ownsRow base e s v n xs) (hb : ∀ (k : Nat) (cur : Array Value), W.heap[k]? = some (Obj.cells cur e (0, 0)) → W'.heap[k]? = W.heap[k]?) : W'.ownsRow base e s v n xs := by
  obtain ⟨h0, h1⟩ := h
  refine ⟨h0, ?_⟩
  rcases h1 with h1 | ⟨g, cap, cur, h1, h2, h3, h4⟩
  · exact .inl h1
  · exact .inr ⟨g, cap, cur, h1, h2, (hb g cur h3).trans h3, h4⟩
theorem own_form {W : World} {base : Nat} {e : TypeId} {s n : Nat} {v : Value} {xs : List Value} (h : W.ownsRow base e s v n xs) : ∃ a cap, v = .slice a n cap := by
  obtain ⟨-, ⟨rfl, hz⟩ | ⟨g, cap, cur, rfl, _⟩⟩ := h
  · exact ⟨none, 0, by rw [hz]⟩
  · exact ⟨_, _, rfl⟩
theorem own_open {W : World} {base : Nat} {e : TypeId} {s n : Nat} {v : Value} {xs : List Value} (h : W.ownsRow base e s v n xs) (hn : n ≠ 0) :
    ∃ g cap cur, v = .slice (some ⟨g, 0, none⟩) n cap ∧ base ≤ g ∧ W.heap[g]? = some (.cells cur e) ∧ n ≤ cap ∧ cap ≤ maxLen ∧ cur.size = cap * s ∧ ∀ (j : Nat) (u : Value), xs[j]? = some u → W.cell? ⟨g, j, none⟩ = some u := by
  obtain ⟨hl, ⟨rfl, hz⟩ | ⟨g, cap, cur, rfl, hgb, hgg, hcap, hcm, hcs, htk⟩⟩ := h
  · exact absurd hz hn
  · refine ⟨g, cap, cur, rfl, hgb, hgg, hcap, hcm, hcs, fun j u hj => ?_⟩
    have hj2 := (List.getElem?_eq_some_iff.1 hj).1
    rw [cell_of hgg, ← hj, ← htk, List.getElem?_take_of_lt (by omega)]
    simp
theorem own_base {W : World} {base base' : Nat} {e : TypeId} {s n : Nat} {v : Value} {xs : List Value} (h : W.ownsRow base' e s v n xs) (hb : base ≤ base') : W.ownsRow base e s v n xs := by
  obtain ⟨h0, h1 | ⟨g, cap, cur, h1, h2, h3⟩⟩ := h
  · exact ⟨h0, .inl h1⟩
  · exact ⟨h0, .inr ⟨g, cap, cur, h1, Nat.le_trans hb h2, h3⟩⟩
theorem own_addr {W : World} {base : Nat} {e : TypeId} {s n m cap : Nat} {a : Option Addr} {xs : List Value} (h : W.ownsRow base e s (.slice a m cap) n xs) : ∃ g, (a = none ∧ m = 0 ∧ cap = 0) ∨ a = some ⟨g, 0, none⟩ := by
  obtain ⟨-, ⟨e1, hz⟩ | ⟨g, cap', cur, e1, _⟩⟩ := h
  · simp only [Value.slice.injEq] at e1; obtain ⟨rfl, rfl, rfl⟩ := e1; exact ⟨0, .inl ⟨rfl, rfl, rfl⟩⟩
  · simp only [Value.slice.injEq] at e1; obtain ⟨rfl, rfl, rfl⟩ := e1; exact ⟨g, .inr rfl⟩
theorem below_grown {base : Nat} {w W W' : World} {e : TypeId} {s n : Nat} {v : Value} {xs : List Value} (hB : Below base w W) (h : W.ownsRow base e s v n xs) (g : W.grownBy W' v.ownBlock) (hb : base ≤ W.heap.size) : Below base w W' := by
  refine ⟨g.os.trans hB.os, g.tape.trans hB.tape, g.output.trans hB.output, ?_, ?_⟩
  · have := g.size; have := hB.size; omega
  · intro k hk
    have h1 : some k ≠ v.ownBlock := by
      intro e
      obtain ⟨-, ⟨rfl, _⟩ | ⟨g', cap, cur, rfl, hgb, _⟩⟩ := h
      · simp [Value.ownBlock] at e
      · simp [Value.ownBlock] at e; omega
    rw [g.block k (by omega) h1]
    exact hB.block k hk
/-- Entries: a name and its node. -/
abbrev Ents := List (ByteArray × Int)
def row (p : ByteArray × Int) : List Value := [.string p.1, .int .i64 p.2]
theorem row_length (p : ByteArray × Int) : (row p).length = 2 := rfl
theorem rows_len (es : Ents) : (rowsOf row es).length = es.length * 2 := by rw [rowsOf_length row 2 row_length, Nat.mul_comm]
theorem rows_one (es : Ents) : ∀ u ∈ rowsOf row es, u.oneCell' = true := by
  intro u hu
  simp only [rowsOf, List.mem_flatMap, row] at hu
  obtain ⟨a, _, ha⟩ := hu
  simp at ha
  rcases ha with rfl | rfl <;> rfl
theorem rows_cons (x : ByteArray × Int) (xs : Ents) : rowsOf row (x :: xs) = .string x.1 :: .int .i64 x.2 :: rowsOf row xs := rfl
theorem rows_take : ∀ (xs : Ents) (k : Nat), rowsOf row (xs.take k) = (rowsOf row xs).take (k * 2)
  | xs, 0 => by simp [rowsOf]
  | [], k + 1 => by simp [rowsOf]
  | x :: xs, k + 1 => by
    rw [List.take_succ_cons, rows_cons, rows_cons, rows_take xs k, show (k + 1) * 2 = k * 2 + 1 + 1 by omega, List.take_succ_cons, List.take_succ_cons]
theorem rows_drop : ∀ (xs : Ents) (k : Nat), rowsOf row (xs.drop k) = (rowsOf row xs).drop (k * 2)
  | xs, 0 => by simp
  | [], k + 1 => by simp [rowsOf]
  | x :: xs, k + 1 => by
    rw [List.drop_succ_cons, rows_cons, rows_drop xs k, show (k + 1) * 2 = k * 2 + 1 + 1 by omega, List.drop_succ_cons, List.drop_succ_cons]
theorem rows_at (es : Ents) (i : Nat) (k : ByteArray) (v : Int) (h : es[i]? = some (k, v)) : (rowsOf row es)[i * 2]? = some (.string k) ∧ (rowsOf row es)[i * 2 + 1]? = some (.int .i64 v) := by
  have e0 := rowsOf_get row 2 row_length es i 0 (k, v) h (by omega)
  have e1 := rowsOf_get row 2 row_length es i 1 (k, v) h (by omega)
  rw [show i * 2 = 2 * i + 0 by omega, show 2 * i + 0 + 1 = 2 * i + 1 by omega]
  exact ⟨e0, e1⟩
end Go.Proofs.YtlngeaacjbdmhaaGreat
