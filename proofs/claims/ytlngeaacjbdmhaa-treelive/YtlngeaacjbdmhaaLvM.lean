/-
  TreeLive: plain reasoning on what names reach; rows that slide; what lies while the calls are asked and the tree is searched; the blocks of the law's code.
-/
import Derived.Test.YtlngeaacjbdmhaaTrF
import Derived.Test.YtlngeaacjbdmhaaApiB
import Derived.Maps.AppendAt
import Derived.ArgAppend
import Derived.Laws.CopyOwn
import Derived.Deep.OwnRows
import Derived.Deep.DrawnRows
import Derived.Test.YtlngeaacjbdmhaaInA
import Derived.Deep.WholeRow
import Derived.Deep.RegionHeld3
import Derived.Sort.AtCall
import Derived.Laws.Cover1
import Derived.Sort.Walk0
import Derived.Deep.CutRange
import Derived.Deep.CutBlock
namespace Go.Proofs.Ytlngeaacjbdmhaa
open Go.RowKit Go.Maps
set_option linter.unusedVariables false

/-- How often a node is held. -/
def Tr.hd (T : Tr) (n : Int) : Nat := match T.nd n with | some x => x.holds | none => 0
theorem Tr.hd_some {T : Tr} {n : Int} {x : Nd} (h : T.nd n = some x) : T.hd n = x.holds := by simp [Tr.hd, h]
theorem Tr.hd_none {T : Tr} {n : Int} (h : T.nd n = none) : T.hd n = 0 := by simp [Tr.hd, h]
section
variable {T : Tr}
theorem hd_set (n : Int) (o : Option Nd) (ho : (match o with | some x => x.holds | none => 0) = T.hd n) (k : Int) : (T.set n o).hd k = T.hd k := by
  by_cases e : k = n
  · subst e; unfold Tr.hd at ho ⊢; rw [Tr.set_same]; exact ho
  · unfold Tr.hd; rw [Tr.set_other _ _ e]
theorem hd_give (dir : Int) (s : ByteArray) (n : Int) (k : Int) : (T.give dir s n).hd k = T.hd k := by
  unfold Tr.give
  split
  · rename_i d x hd hx
    have h1 : ∀ k, (T.set dir (some { d with ins := putE d.ins s n })).hd k = T.hd k := hd_set dir _ (by rw [Tr.hd_some hd])
    rw [hd_set n _ (by rw [h1, Tr.hd_some hx]; rfl), h1]
  · rfl
theorem hd_less (n k : Int) : (T.less n).hd k = T.hd k := by
  unfold Tr.less
  split
  · rename_i x hx
    exact hd_set n _ (by rw [Tr.hd_some hx]) k
  · rfl
theorem hd_leave (n k : Int) : (T.leave n).hd k = T.hd k := by
  unfold Tr.leave
  split
  · rename_i x hx
    split
    · rfl
    · rename_i hno
      exact hd_set n none (by rw [Tr.hd_some hx]; simp; omega) k
  · rfl
theorem hd_take (dir : Int) (s : ByteArray) (k : Int) : (T.take dir s).hd k = T.hd k := by
  unfold Tr.take
  split
  · rename_i d hd
    split
    · rw [hd_leave, hd_less, hd_set dir _ (by rw [Tr.hd_some hd])]
    · rfl
  · rfl
theorem hd_make {B : Nat} (hw : Wk B T) (dir : Int) (s : ByteArray) (kind mode uid gid : Int) (text : ByteArray) (k : Int) : (T.make dir s kind mode uid gid text).hd k = T.hd k := by
  unfold Tr.make
  split
  · rw [hd_give]
    unfold Tr.hd Tr.add
    by_cases e : k = (T.made : Int) + 1
    · simp only [e, if_true]
      cases h : T.nd ((T.made : Int) + 1) with
      | none => rfl
      | some x => have := (hw.key _ x h).2; omega
    · simp only [e, if_false]
  · rfl
theorem hd_join (dir : Int) (s : ByteArray) (n k : Int) : (T.join dir s n).hd k = T.hd k := by
  unfold Tr.join
  split
  · exact hd_give _ _ _ _
  · rfl
theorem hd_part (dir : Int) (s : ByteArray) (k : Int) : (T.part dir s).hd k = T.hd k := by
  unfold Tr.part
  split
  · exact hd_take _ _ _
  · rfl
theorem hd_move (l : List Int) (dir : Int) (s : ByteArray) (to' : Int) (s2 : ByteArray) (k : Int) : (T.move l dir s to' s2).hd k = T.hd k := by
  unfold Tr.move
  split
  · split
    · split
      · split
        · rfl
        · rw [hd_take, hd_give, hd_take]
      · rw [hd_take, hd_give]
    · rfl
  · rfl
theorem hd_hold {n : Int} (h : T.holdE n = 0) (k : Int) : (T.hold n).hd k = if k = n then T.hd k + 1 else T.hd k := by
  unfold Tr.holdE at h
  unfold Tr.hold
  split at h
  · rename_i x hx
    by_cases e : k = n
    · subst e; rw [if_pos rfl, Tr.hd_some hx]; simp [Tr.hd, Tr.set_same]
    · rw [if_neg e]; unfold Tr.hd; simp only [Tr.set_other _ _ e]
  · simp at h
theorem hold_no {n : Int} (h : ¬ T.holdE n = 0) : T.hold n = T := by
  unfold Tr.holdE at h
  unfold Tr.hold
  split at h
  · simp at h
  · rfl
theorem hd_loose {n : Int} (h : T.looseE n = 0) (k : Int) : (T.loose n).hd k = (if k = n then T.hd k - 1 else T.hd k) ∧ 0 < T.hd n := by
  unfold Tr.looseE at h
  split at h
  · rename_i x hx
    split at h
    · simp at h
    · rename_i h0
      refine ⟨?_, by rw [Tr.hd_some hx]; omega⟩
      unfold Tr.hd
      rw [Tr.loose_nd hx h0]
      by_cases e : k = n
      · subst e
        rw [if_pos rfl, if_pos rfl, hx]
        split
        · rename_i y hy
          split at hy
          · cases hy; rfl
          · cases hy
        · rename_i hy
          split at hy
          · cases hy
          · rename_i hno
            show 0 = x.holds - 1
            omega
      · rw [if_neg e, if_neg e]
  · simp at h
theorem loose_no {n : Int} (h : ¬ T.looseE n = 0) : T.loose n = T := by
  unfold Tr.looseE at h
  unfold Tr.loose
  split at h
  · split at h
    · rename_i h0; simp only [h0, if_true]
    · simp at h
  · rfl
end
theorem make_no {T : Tr} {dir : Int} {s : ByteArray} {kind : Int} (mode uid gid : Int) {text : ByteArray} (h : ¬ T.makeE dir s kind text = 0) : T.make dir s kind mode uid gid text = T := by unfold Tr.make; rw [if_neg h]
theorem join_no {T : Tr} {dir : Int} {s : ByteArray} {n : Int} (h : ¬ T.joinE dir s n = 0) : T.join dir s n = T := by unfold Tr.join; rw [if_neg h]
theorem part_no {T : Tr} {dir : Int} {s : ByteArray} (h : ¬ T.partE dir s = 0) : T.part dir s = T := by unfold Tr.part; rw [if_neg h]
theorem move_no {T : Tr} {l : List Int} {dir : Int} {s : ByteArray} {to' : Int} {s2 : ByteArray} (h : ¬ T.moveE l dir s to' s2 = 0) : T.move l dir s to' s2 = T := by unfold Tr.move; rw [if_neg h]

/-! The search. -/
def sumL (f : Int → Nat) : List Int → Nat | [] => 0 | d :: l => f d + sumL f l
theorem sumL_append (f : Int → Nat) (a b : List Int) : sumL f (a ++ b) = sumL f a + sumL f b := by
  induction a with
  | nil => simp [sumL]
  | cons x a ih => simp only [List.cons_append, sumL, ih]; omega
/-- How often a node was met, when the Dirs V were looked through. -/
def Tr.met (T : Tr) (V : List Int) (n : Int) : Nat := (if n = 1 then 1 else 0) + sumL (fun d => cnt1 (T.nd d) n) V
/-- The Dirs among entries. -/
def Tr.kids (T : Tr) (es : List Ent) : List Int := (es.map (·.2)).filter fun n => decide (T.kindOf n = 1)
/-- V: Dirs that were looked through; Q: those that wait. -/
structure Bf (T : Tr) (V Q : List Int) : Prop where
  nd : (V ++ Q).Nodup
  dr : ∀ d ∈ V ++ Q, ∃ x, T.nd d = some x ∧ x.kind = 1
  one : (1 : Int) ∈ V ++ Q
  kid : ∀ d ∈ V, ∀ x, T.nd d = some x → ∀ e ∈ x.ins, T.kindOf e.2 = 1 → e.2 ∈ V ++ Q
  par : ∀ d ∈ V ++ Q, d = 1 ∨ ∃ u ∈ V, ∃ x s, T.nd u = some x ∧ (s, d) ∈ x.ins
section
variable {B : Nat} {T : Tr} {V Q : List Int}
theorem Bf.start (h : Wf B T) : Bf T [] [1] := by
  obtain ⟨r, h1, h2, -, -⟩ := h.root
  refine ⟨by simp, ?_, by simp, by simp, by simp⟩
  intro d hd
  simp at hd
  subst hd
  exact ⟨r, h1, h2⟩
theorem kindOf_some {n : Int} {x : Nd} (h : T.nd n = some x) : T.kindOf n = x.kind := by simp [Tr.kindOf, h]
theorem kindOf_one {n : Int} (h : T.kindOf n = 1) : ∃ x, T.nd n = some x ∧ x.kind = 1 := by
  unfold Tr.kindOf at h
  split at h
  · rename_i x hx; exact ⟨x, hx, h⟩
  · simp at h
/-- A Dir has no more than one name. -/
theorem Wf.cnt_dir (h : Wf B T) {n : Int} {x : Nd} (hx : T.nd n = some x) (hk : x.kind = 1) : T.cntE n + (if n = 1 then 1 else 0) ≤ 1 := by
  have h1 := h.k.num n x hx
  have h2 := h.one n x hx hk
  omega
theorem cnt1_le (h : Wf B T) {d : Int} (n : Int) : cnt1 (T.nd d) n ≤ T.cntE n := by
  cases e : T.nd d with
  | none => simp [cnt1]
  | some x =>
    obtain ⟨h1, h2⟩ := h.k.key d x e
    have := sumF_le (n := T.made + 1) (i := d.toNat) (f := fun k => cnt1 (T.nd (k : Int)) n) (by omega)
    rw [show ((d.toNat : Nat) : Int) = d by omega, e] at this
    exact this
/-- Two Dirs together hold no more names of a node than there are. -/
theorem sumL_le (h : Wf B T) (n : Int) : ∀ {V : List Int}, V.Nodup → (∀ d ∈ V, (T.nd d).isSome = true) → sumL (fun d => cnt1 (T.nd d) n) V ≤ T.cntE n := by
  intro V hn hl
  -- by the greatest number
  have key : ∀ (m : Nat) (V : List Int), V.Nodup → (∀ d ∈ V, 0 ≤ d ∧ d < m) → sumL (fun d => cnt1 (T.nd d) n) V ≤ sumF m (fun k => cnt1 (T.nd (k : Int)) n) := by
    intro m
    induction m with
    | zero =>
      intro V _ hb
      cases V with
      | nil => simp [sumL]
      | cons d l => have := hb d (by simp); omega
    | succ m ih =>
      intro V hn hb
      by_cases hm : (m : Int) ∈ V
      · obtain ⟨a, c, rfl⟩ := List.append_of_mem hm
        have hn2 : (a ++ c).Nodup := by
          rw [List.nodup_append] at hn ⊢
          refine ⟨hn.1, (List.nodup_cons.1 hn.2.1).2, fun x hx y hy => hn.2.2 x hx y (List.mem_cons_of_mem _ hy)⟩
        have hnm : (m : Int) ∉ a ++ c := by
          rw [List.nodup_append] at hn
          intro h1
          rcases List.mem_append.1 h1 with h1 | h1
          · exact hn.2.2 _ h1 _ (by simp) rfl
          · exact (List.nodup_cons.1 hn.2.1).1 h1
        have := ih (a ++ c) hn2 (fun d hd => by
          have h1 := hb d (by rcases List.mem_append.1 hd with h1 | h1 <;> simp [h1])
          have h2 : d ≠ m := by rintro rfl; exact hnm hd
          omega)
        rw [sumL_append] at this ⊢
        simp only [sumL, sumF]
        omega
      · have := ih V hn (fun d hd => by
          have h1 := hb d hd
          have h2 : d ≠ m := by rintro rfl; exact hm hd
          omega)
        simp only [sumF]
        omega
  exact key (T.made + 1) V hn fun d hd => by
    obtain ⟨x, hx⟩ := Option.isSome_iff_exists.1 (hl d hd)
    have := h.k.key d x hx
    omega
/-- At the end every name was met. -/
theorem Bf.all (h : Wf B T) (hb : Bf T V []) (d : Int) (x : Nd) (hd : T.nd d = some x) (hi : x.ins ≠ []) : d ∈ V := by
  obtain ⟨hk, hn⟩ := h.emp d x hd hi
  obtain ⟨l, hl⟩ := h.chn d x hd hk
  clear hi
  induction l generalizing d x with
  | nil =>
    simp only [Ab] at hl
    rw [Tr.up_dir hd hk, if_neg (by omega)] at hl
    by_cases e : d = 1
    · subst e; simpa using hb.one
    · obtain ⟨h1, u, s, h2, h3⟩ := h.upd d x hd hk e hn
      have := (h.k.key _ u h2).1
      omega
  | cons u l ih =>
    obtain ⟨h1, h2, h3, h4⟩ := hl
    rw [Tr.up_dir hd hk, if_neg (by omega)] at h1
    have e : d ≠ 1 := by
      rintro rfl
      obtain ⟨r, g1, g2, g3, g4⟩ := h.root
      rw [hd] at g1; cases g1
      omega
    obtain ⟨-, ud, s, h5, h6⟩ := h.upd d x hd hk e hn
    rw [h1] at h5
    have hne : ud.ins ≠ [] := by intro e; rw [e] at h6; simp at h6
    obtain ⟨k1, k2⟩ := h.emp u ud h5 hne
    have hu := ih u ud h5 k1 k2 h4
    have := hb.kid u hu ud h5 _ h6 (by rw [kindOf_some hd]; exact hk)
    simpa using this
theorem sumL_all (n : Int) : ∀ (m : Nat) (V : List Int), V.Nodup → (∀ d ∈ V, 0 ≤ d ∧ d < m) → (∀ k : Nat, k < m → (k : Int) ∉ V → cnt1 (T.nd (k : Int)) n = 0) → sumL (fun d => cnt1 (T.nd d) n) V = sumF m (fun k => cnt1 (T.nd (k : Int)) n) := by
  intro m
  induction m with
  | zero =>
    intro V _ hb _
    cases V with
    | nil => simp [sumL, sumF]
    | cons d l => have := hb d (by simp); omega
  | succ m ih =>
    intro V hn hb hz
    by_cases hm : (m : Int) ∈ V
    · obtain ⟨a, c, rfl⟩ := List.append_of_mem hm
      have hn2 : (a ++ c).Nodup := by
        rw [List.nodup_append] at hn ⊢
        refine ⟨hn.1, (List.nodup_cons.1 hn.2.1).2, fun x hx y hy => hn.2.2 x hx y (List.mem_cons_of_mem _ hy)⟩
      have hnm : (m : Int) ∉ a ++ c := by
        rw [List.nodup_append] at hn
        intro h1
        rcases List.mem_append.1 h1 with h1 | h1
        · exact hn.2.2 _ h1 _ (by simp) rfl
        · exact (List.nodup_cons.1 hn.2.1).1 h1
      have := ih (a ++ c) hn2 (fun d hd => by
        have h1 := hb d (by rcases List.mem_append.1 hd with h1 | h1 <;> simp [h1])
        have h2 : d ≠ m := by rintro rfl; exact hnm hd
        omega) (fun k hk hkn => hz k (by omega) (by
          intro h1
          rcases List.mem_append.1 h1 with h1 | h1
          · exact hkn (List.mem_append.2 (.inl h1))
          · rcases List.mem_cons.1 h1 with h1 | h1
            · omega
            · exact hkn (List.mem_append.2 (.inr h1))))
      rw [sumL_append] at this ⊢
      simp only [sumL, sumF]
      omega
    · have := ih V hn (fun d hd => by
        have h1 := hb d hd
        have h2 : d ≠ m := by rintro rfl; exact hm hd
        omega) (fun k hk hkn => hz k (by omega) hkn)
      simp only [sumF]
      rw [hz m (by omega) hm]
      omega
theorem Bf.end_ (h : Wf B T) (hb : Bf T V []) (n : Int) : T.met V n = T.cntE n + (if n = 1 then 1 else 0) := by
  unfold Tr.met
  have hn : V.Nodup := by have := hb.nd; simpa using this
  have hl : ∀ d ∈ V, 0 ≤ d ∧ d < ((T.made + 1 : Nat) : Int) := fun d hd => by
    obtain ⟨x, hx, -⟩ := hb.dr d (by simpa using hd)
    have := h.k.key d x hx
    omega
  have := sumL_all (T := T) n (T.made + 1) V hn hl (fun k hk hkn => by
    cases e : T.nd (k : Int) with
    | none => rfl
    | some x =>
      by_cases hi : x.ins = []
      · simp [cnt1, hi]
      · exact absurd (hb.all h _ x e hi) hkn)
  rw [this]
  show _ + T.cntE n = _
  omega
/-- What is live is met, or held. -/
theorem Bf.live (h : Wf B T) (hb : Bf T V []) (n : Int) : (T.nd n).isSome = (decide (0 < T.met V n) || decide (0 < T.hd n)) := by
  rw [hb.end_ h]
  cases e : T.nd n with
  | none =>
    have h1 : T.cntE n = 0 := by
      rcases Nat.eq_zero_or_pos (T.cntE n) with h1 | h1
      · exact h1
      · obtain ⟨d, x, s, g1, g2⟩ := cntE_in h1
        have := h.k.liv d x g1 _ g2
        rw [e] at this
        cases this
    have h2 : n ≠ 1 := by
      rintro rfl
      obtain ⟨r, g1, -⟩ := h.root
      rw [e] at g1; cases g1
    rw [Tr.hd_none e, h1, if_neg h2]; rfl
  | some x =>
    have h1 := h.k.num n x e
    have h2 := h.alv n x e
    rw [Tr.hd_some e, ← h1]
    show true = _
    rcases h2 with h2 | h2
    · simp [h2]
    · simp [h2]
theorem Bf.links (h : Wf B T) (hb : Bf T V []) {n : Int} {x : Nd} (hx : T.nd n = some x) (hk : x.kind = 2) : T.links x = T.met V n := by
  rw [hb.end_ h, ← h.k.num n x hx]
  unfold Tr.links
  rw [if_neg (by omega)]
/-- While the Dir d is looked through: j of its names were. -/
def Tr.metJ (T : Tr) (V : List Int) (es : List Ent) (j : Nat) (n : Int) : Nat := T.met V n + (es.take j).countP (fun e => decide (e.2 = n))
theorem metJ_succ (V : List Int) {es : List Ent} {j : Nat} {e : Ent} (h : es[j]? = some e) (n : Int) : T.metJ V es (j + 1) n = T.metJ V es j n + if e.2 = n then 1 else 0 := by
  unfold Tr.metJ
  have hl := (List.getElem?_eq_some_iff.1 h).1
  have he := (List.getElem?_eq_some_iff.1 h).2
  rw [List.take_succ_eq_append_getElem hl, List.countP_append, he]
  by_cases c : e.2 = n <;> simp [c] <;> omega
theorem metJ_zero (V : List Int) (es : List Ent) (n : Int) : T.metJ V es 0 n = T.met V n := by simp [Tr.metJ]
theorem metJ_all (V : List Int) {d : Int} {x : Nd} (hd : T.nd d = some x) (n : Int) : T.metJ V x.ins x.ins.length n = T.met (V ++ [d]) n := by
  unfold Tr.metJ Tr.met
  rw [List.take_length, sumL_append]
  simp only [sumL, hd, cnt1]
  omega
theorem kids_succ {es : List Ent} {j : Nat} {e : Ent} (h : es[j]? = some e) : T.kids (es.take (j + 1)) = T.kids (es.take j) ++ (if T.kindOf e.2 = 1 then [e.2] else []) := by
  have hl := (List.getElem?_eq_some_iff.1 h).1
  have he := (List.getElem?_eq_some_iff.1 h).2
  unfold Tr.kids
  rw [List.take_succ_eq_append_getElem hl, List.map_append, List.filter_append, he]
  by_cases c : T.kindOf e.2 = 1 <;> simp [c]
/-- A Dir that is met is met for the first time, and d is above it. -/
theorem Bf.first (h : Wf B T) {d : Int} (hb : Bf T V (d :: Q)) {x : Nd} (hd : T.nd d = some x) {j : Nat} {e : Ent} (he : x.ins[j]? = some e) (hk : T.kindOf e.2 = 1) : T.metJ V x.ins (j + 1) e.2 = 1 ∧ T.up e.2 = d := by
  obtain ⟨y, hy, hyk⟩ := kindOf_one hk
  obtain ⟨h1, h2, h3⟩ := h.holder hd (s := e.1) (List.mem_of_getElem? he) hy hyk
  have hc := h.cnt_dir hy hyk
  rw [if_neg h3] at hc
  refine ⟨?_, by rw [Tr.up_dir hy hyk, if_neg (by omega)]; exact h1⟩
  have hdV : d ∉ V := by
    have := hb.nd
    rw [List.nodup_append] at this
    intro hm
    exact this.2.2 d hm d (by simp) rfl
  have hnd : (d :: V).Nodup := by
    have := hb.nd
    rw [List.nodup_append] at this
    exact List.nodup_cons.2 ⟨hdV, this.1⟩
  have hs := sumL_le h e.2 hnd (fun k hk => by
    rcases List.mem_cons.1 hk with rfl | hk
    · rw [hd]; rfl
    · obtain ⟨z, hz, -⟩ := hb.dr k (by simp [hk])
      rw [hz]; rfl)
  have hs' : cnt1 (T.nd d) e.2 + sumL (fun d => cnt1 (T.nd d) e.2) V ≤ T.cntE e.2 := hs
  rw [hd] at hs'
  have hs2 : x.ins.countP (fun q => decide (q.2 = e.2)) + sumL (fun d => cnt1 (T.nd d) e.2) V ≤ T.cntE e.2 := hs'
  have hl := (List.getElem?_eq_some_iff.1 he).1
  have hge : (x.ins.take (j + 1)).countP (fun q => decide (q.2 = e.2)) ≤ x.ins.countP (fun q => decide (q.2 = e.2)) := List.Sublist.countP_le (List.take_sublist _ _)
  have hpos : 0 < (x.ins.take (j + 1)).countP (fun q => decide (q.2 = e.2)) := by
    rw [List.countP_pos_iff]
    refine ⟨e, List.mem_of_getElem? (i := j) ?_, by simp⟩
    rw [List.getElem?_take_of_lt (by omega)]
    exact he
  unfold Tr.metJ Tr.met
  rw [if_neg h3]
  omega
/-- The Dir d is looked through whole. -/
theorem Bf.step (h : Wf B T) {d : Int} (hb : Bf T V (d :: Q)) {x : Nd} (hd : T.nd d = some x) : Bf T (V ++ [d]) (Q ++ T.kids x.ins) := by
  have hkid : ∀ n, n ∈ T.kids x.ins ↔ (∃ s, (s, n) ∈ x.ins) ∧ T.kindOf n = 1 := by
    intro n
    unfold Tr.kids
    rw [List.mem_filter, List.mem_map]
    constructor
    · rintro ⟨⟨⟨s, m⟩, h1, rfl⟩, h2⟩; exact ⟨⟨s, h1⟩, by simpa using h2⟩
    · rintro ⟨⟨s, h1⟩, h2⟩; exact ⟨⟨_, h1, rfl⟩, by simpa using h2⟩
  have e1 : (V ++ [d]) ++ (Q ++ T.kids x.ins) = (V ++ d :: Q) ++ T.kids x.ins := by simp
  have hnew : ∀ n ∈ T.kids x.ins, n ∉ V ++ d :: Q := by
    intro n hn hin
    obtain ⟨⟨s, h1⟩, h2⟩ := (hkid n).1 hn
    obtain ⟨y, hy, hyk⟩ := kindOf_one h2
    obtain ⟨g1, g2, g3⟩ := h.holder hd h1 hy hyk
    rcases hb.par n hin with rfl | ⟨u, hu, z, s', hz, hm⟩
    · exact g3 rfl
    · obtain ⟨k1, -, -⟩ := h.holder hz hm hy hyk
      have : u = d := by omega
      subst this
      have hnd := hb.nd
      rw [List.nodup_append] at hnd
      exact hnd.2.2 u hu u (by simp) rfl
  refine ⟨?_, ?_, ?_, ?_, ?_⟩
  · rw [e1, List.nodup_append]
    refine ⟨hb.nd, ?_, ?_⟩
    · -- each Dir has one name
      unfold Tr.kids
      have key : ∀ l : List Ent, (∀ n, T.kindOf n = 1 → l.countP (fun e => decide (e.2 = n)) ≤ 1) → ((l.map (·.2)).filter fun n => decide (T.kindOf n = 1)).Nodup := by
        intro l
        induction l with
        | nil => intro _; simp
        | cons a l ih =>
          intro hc
          have hl := ih fun n hn => by have := hc n hn; rw [List.countP_cons] at this; omega
          rw [List.map_cons, List.filter_cons]
          split
          · rename_i ha
            have ha' : T.kindOf a.2 = 1 := by simpa using ha
            refine List.nodup_cons.2 ⟨?_, hl⟩
            intro hm
            have h1 := (List.mem_filter.1 hm).1
            obtain ⟨b, hb1, hb2⟩ := List.mem_map.1 h1
            have h2 := hc a.2 ha'
            rw [List.countP_cons] at h2
            simp only [decide_true, if_true] at h2
            have : 0 < l.countP (fun e => decide (e.2 = a.2)) := List.countP_pos_iff.2 ⟨b, hb1, by simp [hb2]⟩
            omega
          · exact hl
      refine key x.ins fun n hn => ?_
      obtain ⟨y, hy, hyk⟩ := kindOf_one hn
      have h1 := h.cnt_dir hy hyk
      have h2 := cnt1_le h (d := d) n
      rw [hd] at h2
      simp only [cnt1] at h2
      omega
    · intro a ha b hb' hab
      subst hab
      exact hnew a hb' ha
  · intro n hn
    rw [e1] at hn
    rcases List.mem_append.1 hn with hn | hn
    · exact hb.dr n hn
    · exact kindOf_one ((hkid n).1 hn).2
  · rw [e1]; exact List.mem_append.2 (.inl hb.one)
  · intro u hu z hz e he hk
    rw [e1]
    rcases List.mem_append.1 hu with hu | hu
    · exact List.mem_append.2 (.inl (hb.kid u hu z hz e he hk))
    · simp at hu
      subst hu
      rw [hd] at hz; cases hz
      exact List.mem_append.2 (.inr ((hkid e.2).2 ⟨⟨e.1, he⟩, hk⟩))
  · intro n hn
    rw [e1] at hn
    rcases List.mem_append.1 hn with hn | hn
    · rcases hb.par n hn with h1 | ⟨u, hu, z, s, hz, hm⟩
      · exact .inl h1
      · exact .inr ⟨u, List.mem_append.2 (.inl hu), z, s, hz, hm⟩
    · obtain ⟨⟨s, h1⟩, -⟩ := (hkid n).1 hn
      exact .inr ⟨d, by simp, x, s, hd, h1⟩
theorem Bf.metJ_le (h : Wf B T) {d : Int} (hb : Bf T V (d :: Q)) {x : Nd} (hd : T.nd d = some x) (j : Nat) (n : Int) : T.metJ V x.ins j n ≤ 1 + B := by
  have hdV : d ∉ V := by
    have := hb.nd
    rw [List.nodup_append] at this
    intro hm
    exact this.2.2 d hm d (by simp) rfl
  have hnd : (d :: V).Nodup := by
    have := hb.nd
    rw [List.nodup_append] at this
    exact List.nodup_cons.2 ⟨hdV, this.1⟩
  have hs := sumL_le h n hnd (fun k hk => by
    rcases List.mem_cons.1 hk with rfl | hk
    · rw [hd]; rfl
    · obtain ⟨z, hz, -⟩ := hb.dr k (by simp [hk])
      rw [hz]; rfl)
  have hs' : cnt1 (T.nd d) n + sumL (fun d => cnt1 (T.nd d) n) V ≤ T.cntE n := hs
  rw [hd] at hs'
  have hs2 : x.ins.countP (fun q => decide (q.2 = n)) + sumL (fun d => cnt1 (T.nd d) n) V ≤ T.cntE n := hs'
  have hge : (x.ins.take j).countP (fun q => decide (q.2 = n)) ≤ x.ins.countP (fun q => decide (q.2 = n)) := List.Sublist.countP_le (List.take_sublist _ _)
  have hB : T.cntE n ≤ B := by
    rcases Nat.eq_zero_or_pos (T.cntE n) with h1 | h1
    · omega
    · obtain ⟨u, y, s, g1, g2⟩ := cntE_in h1
      obtain ⟨z, hz⟩ := h.k.ent g1 g2
      have h3 := h.k.num _ z hz
      have h4 := (h.k.bnd _ z hz).1
      have : T.cntE n ≤ z.names := by show T.cntE (s, n).2 ≤ z.names; omega
      omega
  unfold Tr.metJ Tr.met
  split <;> omega
/-- There are no more Dirs than numbers. -/
theorem Bf.few (h : Wf B T) (hb : Bf T V Q) : (V ++ Q).length ≤ T.made := by
  have key : ∀ (m : Nat) (l : List Int), l.Nodup → (∀ d ∈ l, 1 ≤ d ∧ d ≤ m) → l.length ≤ m := by
    intro m
    induction m with
    | zero =>
      intro l _ hl
      cases l with
      | nil => simp
      | cons d l => have := hl d (by simp); omega
    | succ m ih =>
      intro l hn hl
      by_cases hm : ((m + 1 : Nat) : Int) ∈ l
      · obtain ⟨a, c, rfl⟩ := List.append_of_mem hm
        have hn2 : (a ++ c).Nodup := by
          rw [List.nodup_append] at hn ⊢
          refine ⟨hn.1, (List.nodup_cons.1 hn.2.1).2, fun x hx y hy => hn.2.2 x hx y (List.mem_cons_of_mem _ hy)⟩
        have hnm : ((m + 1 : Nat) : Int) ∉ a ++ c := by
          rw [List.nodup_append] at hn
          intro h1
          rcases List.mem_append.1 h1 with h1 | h1
          · exact hn.2.2 _ h1 _ (by simp) rfl
          · exact (List.nodup_cons.1 hn.2.1).1 h1
        have := ih (a ++ c) hn2 (fun d hd => by
          have h1 := hl d (by rcases List.mem_append.1 hd with h1 | h1 <;> simp [h1])
          have h2 : d ≠ ((m + 1 : Nat) : Int) := by rintro rfl; exact hnm hd
          omega)
        simp at this ⊢
        omega
      · have := ih l hn (fun d hd => by
          have h1 := hl d hd
          have h2 : d ≠ ((m + 1 : Nat) : Int) := by rintro rfl; exact hm hd
          omega)
        omega
  exact key T.made _ hb.nd fun d hd => by
    obtain ⟨x, hx, -⟩ := hb.dr d hd
    exact h.k.key d x hx
end

theorem addr_add (b off i : Nat) : (⟨b, off, none⟩ : Addr).add i = ⟨b, off + i, none⟩ := by unfold Addr.add; split <;> simp_all
/-- A slice value v of n elements of s cells each, xs, in a block of ours, from whatever place on. -/
def Rw (base : Nat) (W : World) (e : TypeId) (s : Nat) (v : Value) (n : Nat) (xs : List Value) : Prop :=
  xs.length = n * s ∧ ((v = .slice none 0 0 ∧ n = 0) ∨
    ∃ g off cap cur, v = .slice (some ⟨g, off, none⟩) n cap ∧ base ≤ g ∧ W.heap[g]? = some (.cells cur e (0, 0)) ∧ n ≤ cap ∧ cap ≤ maxLen ∧ off + cap * s ≤ cur.size ∧ ∀ (j : Nat) (u : Value), xs[j]? = some u → cur[off + j]? = some u)

theorem Rw.nil (base : Nat) (W : World) (e : TypeId) (s : Nat) : Rw base W e s (.slice none 0 0) 0 [] := ⟨by simp, .inl ⟨rfl, rfl⟩⟩
theorem Rw.of_own {base : Nat} {W : World} {e : TypeId} {s n : Nat} {v : Value} {xs : List Value} (h : W.ownsRow base e s v n xs) : Rw base W e s v n xs := by
  obtain ⟨hl, h | ⟨g, cap, cur, rfl, hgb, hgg, hcap, hcm, hcs, htk⟩⟩ := h
  · exact ⟨hl, .inl h⟩
  · refine ⟨hl, .inr ⟨g, 0, cap, cur, rfl, hgb, hgg, hcap, hcm, by omega, fun j u hj => ?_⟩⟩
    have hj2 := (List.getElem?_eq_some_iff.1 hj).1
    rw [← hj, ← htk, List.getElem?_take_of_lt (by omega)]
    simp
theorem Rw.keep {base : Nat} {W W' : World} {e : TypeId} {s n : Nat} {v : Value} {xs : List Value} (h : Rw base W e s v n xs) (hb : ∀ (k : Nat) (cur : Array Value), v.ownBlock = some k → W.heap[k]? = some (Obj.cells cur e (0, 0)) → W'.heap[k]? = W.heap[k]?) : Rw base W' e s v n xs := by
  obtain ⟨h0, h1⟩ := h
  refine ⟨h0, ?_⟩
  rcases h1 with h1 | ⟨g, off, cap, cur, rfl, h2, h3, h4⟩
  · exact .inl h1
  · exact .inr ⟨g, off, cap, cur, rfl, h2, (hb g cur rfl h3).trans h3, h4⟩
theorem Rw.below {base : Nat} {W W' : World} {e : TypeId} {s n : Nat} {v : Value} {xs : List Value} (h : Rw base W e s v n xs) (g : Below W.heap.size W W') : Rw base W' e s v n xs := h.keep fun k _ _ hc => g.block k (lt_of_heap hc)
theorem Rw.ne {base : Nat} {W : World} {e : TypeId} {s n k : Nat} {v : Value} {xs : List Value} {o : Obj} (h : Rw base W e s v n xs) (ho : W.heap[k]? = some o) (hne : ∀ cur, o ≠ .cells cur e (0, 0)) : some k ≠ v.ownBlock := by
  obtain ⟨-, ⟨rfl, hz⟩ | ⟨g, off, cap, cur, rfl, hgb, hgg, _⟩⟩ := h
  · simp [Value.ownBlock]
  · simp only [Value.ownBlock, ne_eq, Option.some.injEq]
    rintro rfl
    rw [hgg] at ho
    exact hne cur (Option.some.inj ho).symm
theorem Rw.lt {base : Nat} {W : World} {e : TypeId} {s n k : Nat} {v : Value} {xs : List Value} (h : Rw base W e s v n xs) (hk : v.ownBlock = some k) : k < W.heap.size ∧ base ≤ k ∧ ∃ cur, W.heap[k]? = some (.cells cur e (0, 0)) := by
  obtain ⟨-, ⟨rfl, hz⟩ | ⟨g, off, cap, cur, rfl, hgb, hgg, _⟩⟩ := h
  · simp [Value.ownBlock] at hk
  · simp only [Value.ownBlock, Option.some.injEq] at hk
    subst hk
    exact ⟨lt_of_heap hgg, hgb, cur, hgg⟩
theorem Rw.form {base : Nat} {W : World} {e : TypeId} {s n : Nat} {v : Value} {xs : List Value} (h : Rw base W e s v n xs) : ∃ (a : Option Addr) (cap : Nat), v = .slice a n cap ∧ n ≤ cap := by
  obtain ⟨-, ⟨rfl, hz⟩ | ⟨g, off, cap, cur, rfl, _, _, hc, _⟩⟩ := h
  · exact ⟨none, 0, by rw [hz], by omega⟩
  · exact ⟨_, _, rfl, hc⟩
theorem Rw.open_ {base : Nat} {W : World} {e : TypeId} {s n : Nat} {v : Value} {xs : List Value} (h : Rw base W e s v n xs) (hn : n ≠ 0) :
    ∃ g off cap, v = .slice (some ⟨g, off, none⟩) n cap ∧ n ≤ cap ∧ cap ≤ maxLen := by
  obtain ⟨-, ⟨rfl, hz⟩ | ⟨g, off, cap, cur, rfl, _, _, hc, hm, _⟩⟩ := h
  · exact absurd hz hn
  · exact ⟨_, _, _, rfl, hc, hm⟩
theorem Rw.cell {base : Nat} {W : World} {e : TypeId} {s n g off cap l : Nat} {xs : List Value} (h : Rw base W e s (.slice (some ⟨g, off, none⟩) l cap) n xs) {j : Nat} {u : Value} (hj : xs[j]? = some u) : W.cell? ⟨g, off + j, none⟩ = some u := by
  obtain ⟨-, ⟨h1, hz⟩ | ⟨g', off', cap', cur, h1, _, hg, _, _, _, hx⟩⟩ := h
  · simp at h1
  · simp only [Value.slice.injEq, Option.some.injEq, Addr.mk.injEq] at h1
    obtain ⟨⟨rfl, rfl, -⟩, -, -⟩ := h1
    rw [cell_of hg]; exact hx j u hj

/-- The head cut off. -/
theorem Rw.tail {base : Nat} {W : World} {e : TypeId} {s n g off cap : Nat} {hd xs : List Value} (h : Rw base W e s (.slice (some ⟨g, off, none⟩) (n + 1) cap) (n + 1) (hd ++ xs)) (hh : hd.length = s) :
    Rw base W e s (.slice (if cap = 1 then some ⟨g, off, none⟩ else some ⟨g, off + s, none⟩) n (cap - 1)) n xs := by
  obtain ⟨hl, ⟨h1, hz⟩ | ⟨g', off', cap', cur, h1, hb, hg, hc, hm, hs, hx⟩⟩ := h
  · simp at h1
  · simp only [Value.slice.injEq, Option.some.injEq, Addr.mk.injEq] at h1
    obtain ⟨⟨rfl, rfl, -⟩, -, rfl⟩ := h1
    have hxl : xs.length = n * s := by simp [hh, Nat.add_mul] at hl; omega
    refine ⟨hxl, .inr ?_⟩
    by_cases h1 : cap = 1
    · rw [if_pos h1]
      have hn : n = 0 := by omega
      subst hn
      refine ⟨g, off, cap - 1, cur, rfl, hb, hg, by omega, by omega, by subst h1; simp; omega, fun j u hj => ?_⟩
      have := (List.getElem?_eq_some_iff.1 hj).1
      omega
    · rw [if_neg h1]
      refine ⟨g, off + s, cap - 1, cur, rfl, hb, hg, by omega, by omega, ?_, fun j u hj => ?_⟩
      · have e1 : cap * s = (cap - 1) * s + s := by
          have : cap = (cap - 1) + 1 := by omega
          conv => lhs; rw [this, Nat.add_mul, Nat.one_mul]
        omega
      · have := hx (s + j) u (by rw [List.getElem?_append_right (by omega), hh]; simpa using hj)
        rw [← this]; congr 1; omega

theorem heap_setCellsR (g : Nat) (t : TypeId) (f : Nat × Nat) : ∀ (vs : List Value) (o : Nat) (W : World) (cur : Array Value), W.heap[g]? = some (.cells cur t f) →
    ∃ cur', (W.setCells g o vs).heap[g]? = some (.cells cur' t f) ∧ cur'.size = cur.size ∧ (∀ j, j < o → cur'[j]? = cur[j]?) ∧ (∀ (j : Nat) (u : Value), vs[j]? = some u → o + j < cur.size → cur'[o + j]? = some u) ∧
      (W.setCells g o vs).os = W.os ∧ (W.setCells g o vs).tape = W.tape ∧ (W.setCells g o vs).output = W.output ∧ (W.setCells g o vs).heap.size = W.heap.size ∧ ∀ k, k ≠ g → (W.setCells g o vs).heap[k]? = W.heap[k]?
  | [], o, W, cur, h => ⟨cur, h, rfl, fun _ _ => rfl, by simp, rfl, rfl, rfl, rfl, fun _ _ => rfl⟩
  | v :: vs, o, W, cur, h => by
    obtain ⟨cur', h1, h2, h3, h4, h5, h6, h7, h8, h9⟩ := heap_setCellsR g t f vs (o + 1) (W.setCell ⟨g, o, none⟩ v) _ (heap_set h o v)
    refine ⟨cur', h1, by simpa using h2, fun j hj => ?_, fun j u hj hlt => ?_, h5, h6, h7, by rw [World.setCells, h8]; simp [World.setCell], fun k hk => (h9 k hk).trans (Below.heap_setCell _ _ _ _ hk)⟩
    · rw [h3 j (by omega), Array.getElem?_setIfInBounds_ne (by omega)]
    · cases j with
      | zero =>
        simp at hj; subst hj
        rw [Nat.add_zero, h3 o (by omega), Array.getElem?_setIfInBounds_self_of_lt (by omega)]
      | succ j =>
        have := h4 j u (by simpa using hj) (by simp; omega)
        rw [← this]; congr 1; omega

/-- An append: in place or into a new block. -/
theorem Rw.append {base : Nat} {w : World} {e : TypeId} {s n : Nat} {v : Value} {xs : List Value} (h : Rw base w e s v n xs) (t : TypeId) (i : TypeInfo) (z : Value) (bytes : Nat) (ht : Try.prog.underlying t = some (.slice e)) (hi : Try.prog.info? e = some i) (hz : i.zero = some z)
    (hsize : i.size = s) (hby : i.bytes = bytes) (hzs : z.cells.size = s) (hsz : 0 < s) (a : Addr) (m c : Nat) (news : List Value) (hl : news.length = m * s) (hnews : ∀ (j : Nat) (u : Value), news[j]? = some u → w.cell? (a.add j) = some u) (h1 : ∀ u ∈ news, u.oneCell' = true)
    (h63 : n + m ≤ maxLen) (hbytes : (n + m) * bytes ≤ 140737488355328) (hbase : base ≤ w.heap.size) :
    ∃ v' w', (Builtin.append_ #[t, t] t #[v, .slice (some a) m c]).run Try.prog w = .ok v' w' ∧ Rw base w' e s v' (n + m) (xs ++ news) ∧ w.grownBy w' v.ownBlock ∧ (∀ k, v'.ownBlock = some k → v.ownBlock = some k ∨ w.heap.size ≤ k) := by
  obtain ⟨hlx, ⟨rfl, rfl⟩ | ⟨g, off, cap, cur, rfl, hgb, hgg, hcap, hcm, hcs, hx⟩⟩ := h
  · obtain rfl : xs = [] := List.length_eq_zero_iff.1 (by simpa using hlx)
    obtain ⟨v', w', r, own, gr, -, hat⟩ := run_append_own_at (P := Try.prog) w base t t e i z s bytes ht hi hz hsize hby hzs hsz (.slice none 0 0) 0 [] (World.ownsRow_nil _ _ _ _) a m c news hl hnews h1 h63 hbytes hbase
    refine ⟨v', w', r, Rw.of_own own, gr, fun k hk => ?_⟩
    rcases hat with e | e <;> rw [e] at hk
    · exact .inl hk
    · simp at hk; right; omega
  · have holds : ∀ (j : Nat) (u : Value), xs[j]? = some u → w.cell? ⟨g, off + j, none⟩ = some u := fun j u hj => by rw [cell_of hgg]; exact hx j u hj
    by_cases hr : n + m ≤ cap
    · subst hsize
      have hroom : n * i.size + m * i.size ≤ cap * i.size := by rw [← Nat.add_mul]; exact Nat.mul_le_mul_right _ hr
      have r := run_append_room_cells (P := Try.prog) w t t e i ht hi g off n cap a m c news hl hnews h1 hr
        (fun j hj => by rw [cell_of hgg]; simp; omega) (fun j hj => frozen_of hgg _)
      obtain ⟨cur', g1, g2, g3, g4, g5, g6, g7, g8, g9⟩ := heap_setCellsR g e (0, 0) news (off + n * i.size) w cur hgg
      refine ⟨_, _, r, ⟨by simp [hlx, hl, Nat.add_mul], .inr ⟨g, off, cap, cur', rfl, hgb, g1, hr, hcm, by omega, fun j u hj => ?_⟩⟩, ⟨g5, g6, g7, by omega, fun k _ hk => g9 k (by simpa [Value.ownBlock] using hk)⟩, fun k hk => .inl hk⟩
      by_cases hj2 : j < xs.length
      · rw [List.getElem?_append_left hj2] at hj
        rw [g3 _ (by omega)]; exact hx j u hj
      · rw [List.getElem?_append_right (by omega)] at hj
        have hj3 := (List.getElem?_eq_some_iff.1 hj).1
        have := g4 _ u hj (by omega)
        rw [show off + j = off + n * i.size + (j - xs.length) by omega]; exact this
    · obtain ⟨v', w', r, own, gr⟩ := run_append_arg_grows (P := Try.prog) w t t e i z s bytes ht hi hz hsize hby hzs hsz ⟨g, off, none⟩ n cap xs hlx (fun j u hj => by rw [addr_add]; exact holds j u hj) a m c news hl hnews (by omega) h63 hbytes
      have hlt : ∀ k, v'.ownBlock = some k → w.heap.size ≤ k := by
        intro k hk
        obtain ⟨-, ⟨rfl, hz⟩ | ⟨g', cap', cur', rfl, hb', _⟩⟩ := own
        · simp [Value.ownBlock] at hk
        · simp only [Value.ownBlock, Option.some.injEq] at hk; omega
      have own2 := Rw.of_own own
      refine ⟨v', w', r, ⟨own2.1, ?_⟩, ⟨gr.os, gr.tape, gr.output, gr.size, fun k hk _ => gr.block k hk (by simp)⟩, fun k hk => .inr (hlt k hk)⟩
      rcases own2.2 with h | ⟨g', off', cap', cur', h1, h2, h3⟩
      · exact .inl h
      · exact .inr ⟨g', off', cap', cur', h1, by omega, h3⟩


/-- 200 numbers in a block. -/
def ac (H : Nat → Int) : Array Value := ((List.range 200).map fun i => I (H i)).toArray
def upi (f : Nat → Int) (i : Nat) (x : Int) (j : Nat) : Int := if j = i then x else f j
theorem ac_at (H : Nat → Int) (i : Nat) (h : i < 200) : (ac H)[i]? = some (I (H i)) := by
  unfold ac; simp [h]
theorem ac_set (H : Nat → Int) (i : Nat) (x : Int) : (ac H).setIfInBounds i (I x) = ac (upi H i x) := by
  unfold ac
  rw [List.setIfInBounds_toArray]
  congr 1
  apply List.ext_getElem?
  intro j
  rw [List.getElem?_set, List.getElem?_map, List.getElem?_map]
  by_cases e : i = j
  · subst e
    by_cases h : i < 200
    · simp [h, upi]
    · simp [h]
  · rw [if_neg e]
    by_cases h : j < 200
    · simp [h, upi, Ne.symm e]
    · simp [h]
theorem zeroA200 (w : World) : (zeroValue 27).run Try.prog w = .ok (.agg (ac fun _ => 0)) w :=
  (zero_of_info (P := Try.prog) (t := 27) (v := .agg (ac fun _ => 0)) (n := 200) (by kernel_rfl)).1 w

section
variable {T : Tr}
theorem most_leave (n : Int) : (T.leave n).most = T.most := by
  unfold Tr.leave; split
  · split <;> rfl
  · rfl
theorem most_less (n : Int) : (T.less n).most = T.most := by unfold Tr.less; split <;> rfl
theorem most_take (dir : Int) (s : ByteArray) : (T.take dir s).most = T.most := by
  unfold Tr.take; split
  · split
    · rw [most_leave, most_less]; rfl
    · rfl
  · rfl
theorem most_give (dir : Int) (s : ByteArray) (n : Int) : (T.give dir s n).most = T.most := by unfold Tr.give; split <;> rfl
theorem most_make (dir : Int) (s : ByteArray) (kind mode uid gid : Int) (text : ByteArray) : (T.make dir s kind mode uid gid text).most = T.most := by
  unfold Tr.make; split
  · rw [most_give]; rfl
  · rfl
theorem most_join (dir : Int) (s : ByteArray) (n : Int) : (T.join dir s n).most = T.most := by
  unfold Tr.join; split
  · exact most_give _ _ _
  · rfl
theorem most_part (dir : Int) (s : ByteArray) : (T.part dir s).most = T.most := by
  unfold Tr.part; split
  · exact most_take _ _
  · rfl
theorem most_move (l : List Int) (dir : Int) (s : ByteArray) (t' : Int) (s2 : ByteArray) : (T.move l dir s t' s2).most = T.most := by
  unfold Tr.move; split
  · split
    · split
      · split
        · rfl
        · rw [most_take, most_give, most_take]
      · rw [most_take, most_give]
    · rfl
  · rfl
theorem most_hold (n : Int) : (T.hold n).most = T.most := by unfold Tr.hold; split <;> rfl
theorem most_loose (n : Int) : (T.loose n).most = T.most := by
  unfold Tr.loose; split
  · split
    · rfl
    · rw [most_leave]; rfl
  · rfl
end

/-- The tree in block t, how often each node is held in block g; B: no number is greater. -/
structure LT (w W : World) (t g B : Nat) (T : Tr) : Prop where
  q : Tq w.heap.size 10 W t T B
  b : Below w.heap.size w W
  m : T.most = 20
  h : ∃ H, W.heap[g]? = some (.cells (ac H) 27) ∧ ∀ n : Nat, n < 200 → H n = (T.hd (n : Int) : Int)
  l : w.heap.size ≤ g
section
variable {w W W' : World} {t g B : Nat} {T T' : Tr}
theorem LT.below (h : LT w W t g B T) (f : Below W.heap.size W W') : LT w W' t g B T := by
  obtain ⟨H, h1, h2⟩ := h.h
  exact ⟨h.q.below f, h.b.trans (f.mono h.b.size), h.m, ⟨H, (f.block g (lt_of_heap h1)).trans h1, h2⟩, h.l⟩
theorem LT.mono (h : LT w W t g B T) {B' : Nat} (hb : B ≤ B') : LT w W t g B' T := ⟨h.q.mono hb, h.b, h.m, h.h, h.l⟩
theorem LT.call {B' : Nat} (h : LT w W t g B T) (q : Tq w.heap.size 10 W' t T' B') (x : Tx w.heap.size W W') (hm : T'.most = T.most) (hh : ∀ n, T'.hd n = T.hd n) : LT w W' t g B' T' := by
  obtain ⟨H, h1, h2⟩ := h.h
  exact ⟨q, x.fst h.b (Nat.le_refl _), hm.trans h.m, ⟨H, x.oth g _ _ _ h1 (by decide) (by decide) (by decide) (by decide) (by decide), fun n hn => by rw [hh]; exact h2 n hn⟩, h.l⟩
/-- Between a Hold, or a Loose, and what the law tells itself of it. -/
structure LH (w W : World) (t g B : Nat) (T T' : Tr) : Prop where
  q : Tq w.heap.size 10 W t T' B
  b : Below w.heap.size w W
  m : T'.most = 20
  h : ∃ H, W.heap[g]? = some (.cells (ac H) 27) ∧ ∀ n : Nat, n < 200 → H n = (T.hd (n : Int) : Int)
  l : w.heap.size ≤ g
theorem LT.half {B' : Nat} (h : LT w W t g B T) (q : Tq w.heap.size 10 W' t T' B') (x : Tx w.heap.size W W') (hm : T'.most = T.most) : LH w W' t g B' T T' := by
  obtain ⟨H, h1, h2⟩ := h.h
  exact ⟨q, x.fst h.b (Nat.le_refl _), hm.trans h.m, ⟨H, x.oth g _ _ _ h1 (by decide) (by decide) (by decide) (by decide) (by decide), h2⟩, h.l⟩
theorem LH.same (h : LH w W t g B T T') (e : ∀ n, T'.hd n = T.hd n) : LT w W t g B T' := by
  obtain ⟨H, h1, h2⟩ := h.h
  exact ⟨h.q, h.b, h.m, ⟨H, h1, fun n hn => by rw [e]; exact h2 n hn⟩, h.l⟩
theorem Tq.store (h : Tq w.heap.size 10 W t T B) {g : Nat} {cs : Array Value} (hg : W.heap[g]? = some (.cells cs 27)) (i : Nat) (v : Value) : Tq w.heap.size 10 (W.setCell ⟨g, i, none⟩ v) t T B := by
  refine ⟨h.p.keep (by simp [World.setCell]) (fun b es k hb => Below.heap_setCell _ _ _ _ ?_) (fun b cs' ty f hb ht => Below.heap_setCell _ _ _ _ ?_), h.f⟩
  · rintro rfl
    rw [hg] at hb; cases hb
  · rintro rfl
    rw [hg] at hb
    simp only [Option.some.injEq, Obj.cells.injEq] at hb
    obtain ⟨-, rfl, -⟩ := hb
    revert ht
    decide
theorem LH.put (h : LH w W t g B T T') {k : Nat} (hk : k < 200) {x : Int} (e : ∀ n : Nat, (T'.hd (n : Int) : Int) = if n = k then x else T.hd (n : Int)) :
    ∃ X, W.setCell ⟨g, k, none⟩ (I x) = X ∧ W.cell? ⟨g, k, none⟩ = some (I (T.hd (k : Int))) ∧ W.frozen? ⟨g, k, none⟩ = false ∧ LT w X t g B T' := by
  obtain ⟨H, h1, h2⟩ := h.h
  refine ⟨_, rfl, by rw [cell_of h1, ac_at H k hk, h2 k hk], frozen_of h1 k, h.q.store h1 k _, h.b.setCell (p := ⟨g, k, none⟩) h.l _, h.m, ⟨upi H k x, by rw [heap_set h1, ac_set], fun n hn => ?_⟩, h.l⟩
  unfold upi
  rw [e]
  split
  · rfl
  · exact h2 n hn
/-- What a call of a tree leaves: the law's own block y with it. -/
theorem LT.make (h : LT w W t g B T) (hB : B ≤ 200) {d : Nat} (hd : d ≤ 6) (s : ByteArray) (a kind mode uid gid f g' : Int) {y : Nat} {cs : Array Value} (hy : W.heap[y]? = some (.cells cs 32)) :
    Calls Try.prog 7 #[P0 t, I (d : Int), .string s, stV a kind mode uid gid f g', .string ⟨#[]⟩] W fun e W' => ∃ x er T', e = .returned (.tuple #[I x, I er]) ∧ (er = 0 ∨ T' = T) ∧ Hid (LT w W' t g (B + 2) T') ∧ Hid (W'.heap[y]? = some (.cells cs 32)) := by
  refine (make_Q h.q (by omega) (wf_of (by omega)) s a kind mode uid gid f g' ⟨#[]⟩ (by decide) _ _ _ rfl rfl rfl).mono ?_
  rintro e W' ⟨rfl, h4, h5⟩
  refine ⟨_, _, _, rfl, ?_, h.call (unhide h4) (unhide h5) (most_make _ _ _ _ _ _ _) (hd_make h.q.f.k _ _ _ _ _ _ _), (unhide h5).oth y _ _ _ hy (by decide) (by decide) (by decide) (by decide) (by decide)⟩
  by_cases e : T.makeE (d : Int) s kind ⟨#[]⟩ = 0
  · exact .inl e
  · exact .inr (make_no _ _ _ e)
theorem LT.join (h : LT w W t g B T) (hB : B ≤ 200) {d n : Nat} (hd : d ≤ 6) (hn : n ≤ 6) (s : ByteArray) {y : Nat} {cs : Array Value} (hy : W.heap[y]? = some (.cells cs 32)) :
    Calls Try.prog 8 #[P0 t, I (d : Int), .string s, I (n : Int)] W fun e W' => ∃ er T', e = .returned (I er) ∧ (er = 0 ∨ T' = T) ∧ Hid (LT w W' t g (B + 2) T') ∧ Hid (W'.heap[y]? = some (.cells cs 32)) := by
  refine (join_Q h.q (by omega) (wf_of (by omega)) (wf_of (by omega)) s _ _ rfl rfl).mono ?_
  rintro e W' ⟨rfl, h4, h5⟩
  refine ⟨_, _, rfl, ?_, (h.call (unhide h4) (unhide h5) (most_join _ _ _) (hd_join _ _ _)).mono (by omega), (unhide h5).oth y _ _ _ hy (by decide) (by decide) (by decide) (by decide) (by decide)⟩
  by_cases e : T.joinE (d : Int) s (n : Int) = 0
  · exact .inl e
  · exact .inr (join_no e)
theorem LT.part (h : LT w W t g B T) (hB : B ≤ 200) {d : Nat} (hd : d ≤ 6) (s : ByteArray) {y : Nat} {cs : Array Value} (hy : W.heap[y]? = some (.cells cs 32)) :
    Calls Try.prog 9 #[P0 t, I (d : Int), .string s] W fun e W' => ∃ er T', e = .returned (I er) ∧ (er = 0 ∨ T' = T) ∧ Hid (LT w W' t g (B + 2) T') ∧ Hid (W'.heap[y]? = some (.cells cs 32)) := by
  refine (part_Q h.q (by omega) (wf_of (by omega)) s _ _ rfl rfl).mono ?_
  rintro e W' ⟨rfl, h4, h5⟩
  refine ⟨_, _, rfl, ?_, (h.call (unhide h4) (unhide h5) (most_part _ _) (hd_part _ _)).mono (by omega), (unhide h5).oth y _ _ _ hy (by decide) (by decide) (by decide) (by decide) (by decide)⟩
  by_cases e : T.partE (d : Int) s = 0
  · exact .inl e
  · exact .inr (part_no e)
theorem LT.move (h : LT w W t g B T) (hB : B ≤ 200) {d n : Nat} (hd : d ≤ 6) (hn : n ≤ 6) (s s2 : ByteArray) {y : Nat} {cs : Array Value} (hy : W.heap[y]? = some (.cells cs 32)) :
    Calls Try.prog 10 #[P0 t, I (d : Int), .string s, I (n : Int), .string s2] W fun e W' => ∃ er T', e = .returned (I er) ∧ (er = 0 ∨ T' = T) ∧ Hid (LT w W' t g (B + 2) T') ∧ Hid (W'.heap[y]? = some (.cells cs 32)) := by
  obtain ⟨l, hl⟩ := h.q.f.ab (n : Int)
  refine (move_Q h.q (by omega) (wf_of (by omega)) (wf_of (by omega)) s s2 hl _ _ rfl rfl).mono ?_
  rintro e W' ⟨rfl, h4, h5⟩
  refine ⟨_, _, rfl, ?_, (h.call (unhide h4) (unhide h5) (most_move _ _ _ _ _) (hd_move _ _ _ _ _)).mono (by omega), (unhide h5).oth y _ _ _ hy (by decide) (by decide) (by decide) (by decide) (by decide)⟩
  by_cases e : T.moveE l (d : Int) s (n : Int) s2 = 0
  · exact .inl e
  · exact .inr (move_no e)
theorem LT.hold (h : LT w W t g B T) (hB : B ≤ 200) {d : Nat} (hd : d ≤ 6) {y : Nat} {cs : Array Value} (hy : W.heap[y]? = some (.cells cs 32)) :
    Calls Try.prog 11 #[P0 t, I (d : Int)] W fun e W' => e = .returned (I (T.holdE (d : Int))) ∧ Hid (LH w W' t g (B + 2) T (T.hold (d : Int))) ∧ W'.heap[y]? = some (.cells cs 32) := by
  refine (hold_Q h.q (by omega) (wf_of (by omega)) _ _ rfl rfl).mono ?_
  rintro e W' ⟨rfl, h4, h5⟩
  exact ⟨rfl, h.half ((unhide h4).mono (by omega)) (unhide h5) (most_hold _), (unhide h5).oth y _ _ _ hy (by decide) (by decide) (by decide) (by decide) (by decide)⟩
theorem LT.loose (h : LT w W t g B T) (hB : B ≤ 200) {d : Nat} (hd : d ≤ 6) {y : Nat} {cs : Array Value} (hy : W.heap[y]? = some (.cells cs 32)) :
    Calls Try.prog 12 #[P0 t, I (d : Int)] W fun e W' => e = .returned (I (T.looseE (d : Int))) ∧ Hid (LH w W' t g (B + 2) T (T.loose (d : Int))) ∧ W'.heap[y]? = some (.cells cs 32) := by
  refine (loose_Q h.q (by omega) (wf_of (by omega)) _ _ rfl rfl).mono ?_
  rintro e W' ⟨rfl, h4, h5⟩
  exact ⟨rfl, h.half ((unhide h4).mono (by omega)) (unhide h5) (most_loose _), (unhide h5).oth y _ _ _ hy (by decide) (by decide) (by decide) (by decide) (by decide)⟩
theorem LT.left (h : LT w W t g B T) (hB : B ≤ 200) {y : Nat} {o : Obj} (hy : W.heap[y]? = some o) :
    Calls Try.prog 13 #[P0 t] W fun e W' => e = .returned (I (20 - (T.live : Int))) ∧ Hid (LT w W' t g B T) ∧ W'.heap[y]? = some o := by
  refine (left_Q h.q (by omega) _ rfl).mono ?_
  rintro e W' ⟨rfl, h4, h5⟩
  refine ⟨by unfold Tr.left; rw [h.m]; rfl, h.below (unhide h5), ((unhide h5).block y (lt_of_heap hy)).trans hy⟩
theorem LT.live (h : LT w W t g B T) (hB : B ≤ 200) {y : Nat} {o : Obj} (hy : W.heap[y]? = some o) :
    Calls Try.prog 6 #[P0 t] W fun e W' => ∃ a cap, e = .returned (.slice a T.live cap) ∧ Hid (LT w W' t g B T) ∧ W'.heap[y]? = some o := by
  refine (live_Q h.q (by omega)).mono ?_
  rintro e W' ⟨v, rfl, R, Q, X⟩
  obtain ⟨a, cap, hv⟩ := own_form (unhide R)
  rw [T.livesI_len] at hv
  exact ⟨a, cap, by rw [hv], h.below (unhide X), ((unhide X).block y (lt_of_heap hy)).trans hy⟩
end

/-- A least one of those that fit: a measure that looks at what no slot shows. -/
theorem ghost {α : Type} (Rel : α → Value → World → Prop) (f : α → Nat) : ∃ M : Value → World → Nat, ∀ v W a, Rel a v W → M v W ≤ f a ∧ ∃ b, Rel b v W ∧ f b = M v W := by
  have key : ∀ v W, ∃ m : Nat, ∀ a, Rel a v W → m ≤ f a ∧ ∃ b, Rel b v W ∧ f b = m := by
    intro v W
    by_cases h : ∃ a, Rel a v W
    · have hm : ∀ n : Nat, ∀ a, Rel a v W → f a = n → ∃ b, Rel b v W ∧ ∀ c, Rel c v W → f b ≤ f c := by
        intro n
        induction n using Nat.strongRecOn with
        | _ n ih =>
          intro a ha hn
          by_cases hc : ∃ c, Rel c v W ∧ f c < n
          · obtain ⟨c, hc1, hc2⟩ := hc
            exact ih (f c) hc2 c hc1 rfl
          · refine ⟨a, ha, fun c hc1 => ?_⟩
            have : ¬ f c < n := fun h => hc ⟨c, hc1, h⟩
            omega
      obtain ⟨a, ha⟩ := h
      obtain ⟨b, hb, hmin⟩ := hm (f a) a ha rfl
      exact ⟨f b, fun c hc => ⟨hmin c hc, b, hb, rfl⟩⟩
    · exact ⟨0, fun a ha => absurd ⟨a, ha⟩ h⟩
  refine ⟨fun v W => Classical.choose (key v W), fun v W a ha => Classical.choose_spec (key v W) a ha⟩

abbrev Iv (l : List Int) : List Value := l.map fun n => I n
/-- T: the tree; R: how often each node was met; Q: the Dirs that wait, in the row qv. -/
structure LS (w W : World) (t g r : Nat) (T : Tr) (R : Nat → Int) (qv : Value) (Q : List Int) : Prop where
  q : Tq w.heap.size 10 W t T 125
  b : Below w.heap.size w W
  h : ∃ H, W.heap[g]? = some (.cells (ac H) 27) ∧ ∀ n : Nat, n < 200 → H n = (T.hd (n : Int) : Int)
  rr : W.heap[r]? = some (.cells (ac R) 27)
  lo : w.heap.size ≤ g ∧ w.heap.size ≤ r
  ne : g ≠ r
  ww : Rw w.heap.size W 3 1 qv Q.length (Iv Q)
section
variable {w W W' : World} {t g r : Nat} {T : Tr} {R : Nat → Int} {qv : Value} {Q : List Int}
theorem LS.below (h : LS w W t g r T R qv Q) (f : Below W.heap.size W W') : LS w W' t g r T R qv Q := by
  obtain ⟨H, h1, h2⟩ := h.h
  exact ⟨h.q.below f, h.b.trans (f.mono h.b.size), ⟨H, (f.block g (lt_of_heap h1)).trans h1, h2⟩, (f.block r (lt_of_heap h.rr)).trans h.rr, h.lo, h.ne, h.ww.below f⟩
theorem LS.put (h : LS w W t g r T R qv Q) {k : Nat} (hk : k < 200) (x : Int) :
    ∃ X, W.setCell ⟨r, k, none⟩ (I x) = X ∧ W.cell? ⟨r, k, none⟩ = some (I (R k)) ∧ W.frozen? ⟨r, k, none⟩ = false ∧ LS w X t g r T (upi R k x) qv Q ∧ X.heap.size = W.heap.size ∧ (∀ b, b ≠ r → X.heap[b]? = W.heap[b]?) := by
  obtain ⟨H, h1, h2⟩ := h.h
  have hk' : ∀ b, b ≠ r → (W.setCell ⟨r, k, none⟩ (I x)).heap[b]? = W.heap[b]? := fun b hb => Below.heap_setCell _ _ _ _ hb
  refine ⟨_, rfl, by rw [cell_of h.rr, ac_at R k hk], frozen_of h.rr k, ⟨h.q.store h.rr k _, h.b.setCell (p := ⟨r, k, none⟩) h.lo.2 _, ⟨H, (hk' g h.ne).trans h1, h2⟩, by rw [heap_set h.rr, ac_set], h.lo, h.ne, h.ww.keep fun b cur _ hc => hk' b ?_⟩, by simp [World.setCell], hk'⟩
  rintro rfl
  rw [h.rr] at hc
  simp at hc
theorem LS.at (h : LS w W t g r T R qv Q) {k : Nat} (hk : k < 200) : W.cell? ⟨r, k, none⟩ = some (I (R k)) ∧ W.cell? ⟨g, k, none⟩ = some (I (T.hd (k : Int))) := by
  obtain ⟨H, h1, h2⟩ := h.h
  exact ⟨by rw [cell_of h.rr, ac_at R k hk], by rw [cell_of h1, ac_at H k hk, h2 k hk]⟩
/-- The first of those that wait is taken. -/
theorem LS.head {d : Int} (h : LS w W t g r T R qv (d :: Q)) : ∃ b off cap, qv = .slice (some ⟨b, off, none⟩) (Q.length + 1) cap ∧ W.cell? ⟨b, off, none⟩ = some (I d) ∧ Q.length + 1 ≤ cap ∧
    LS w W t g r T R (.slice (if cap = 1 then some ⟨b, off, none⟩ else some ⟨b, off + 1, none⟩) Q.length (cap - 1)) Q := by
  obtain ⟨b, off, cap, e, hc, -⟩ := h.ww.open_ (by simp)
  have hw := h.ww
  rw [e] at hw
  refine ⟨b, off, cap, e, ?_, hc, ⟨h.q, h.b, h.h, h.rr, h.lo, h.ne, ?_⟩⟩
  · have := hw.cell (j := 0) (u := I d) rfl
    simpa using this
  · exact Rw.tail (hd := [I d]) (xs := Iv Q) hw rfl
theorem info3L : (Try.prog.info? 3).map (fun i => (i.zero, i.size, i.bytes)) = some (some (.int .i64 0), 1, 8) := by kernel_rfl
/-- One more waits. -/
theorem LS.push (h : LS w W t g r T R qv Q) (hl : Q.length ≤ 500) {a : Nat} {n : Int} (ha : W.heap[a]? = some (.cells #[I n] 3)) :
    ∃ qv' W', (Builtin.append_ #[34, 34] 34 #[qv, .slice (some ⟨a, 0, none⟩) 1 1]).run Try.prog W = .ok qv' W' ∧ LS w W' t g r T R qv' (Q ++ [n]) ∧ (∃ x c, qv' = .slice x (Q.length + 1) c) ∧ W.heap.size ≤ W'.heap.size ∧ (∀ (k : Nat) (o : Obj), W.heap[k]? = some o → (∀ cur, o ≠ .cells cur 3 (0, 0)) → W'.heap[k]? = some o) := by
  obtain ⟨i0, hi, hz0, hz1, hz2⟩ := info_parts info3L
  obtain ⟨H, h1, h2⟩ := h.h
  obtain ⟨v', W5, hrun, own7, hgr, -⟩ := h.ww.append 34 i0 (.int .i64 0) 8 Try.underlying34 hi hz0 hz1 hz2 rfl (by decide) ⟨a, 0, none⟩ 1 1 [I n] rfl (by intro j u hj; rw [addr_add, Nat.zero_add, cell_of ha]; simpa using hj) (by intro u hu; simp at hu; subst hu; rfl) (by unfold maxLen; omega) (by omega) h.q.lo_le
  have keep : ∀ (k : Nat) (o : Obj), W.heap[k]? = some o → (∀ cur, o ≠ .cells cur 3 (0, 0)) → W5.heap[k]? = some o := fun k o ho hne => (hgr.block k (lt_of_heap ho) (h.ww.ne ho hne)).trans ho
  obtain ⟨x, c, e, -⟩ := own7.form
  refine ⟨v', W5, hrun, ⟨⟨h.q.p.keep hgr.size (fun b es k hb => (keep b _ hb (by intro cur e; cases e)).trans hb.symm) (fun b cs ty f hb ht => (keep b _ hb ?_).trans hb.symm), h.q.f⟩, ?_, ⟨H, keep g _ h1 (by simp), h2⟩, keep r _ h.rr (by simp), h.lo, h.ne, ?_⟩, ⟨x, c, e⟩, hgr.size, keep⟩
  · intro cur e
    simp only [Obj.cells.injEq] at e
    obtain ⟨-, rfl, -⟩ := e
    revert ht
    decide
  · refine ⟨hgr.os.trans h.b.os, hgr.tape.trans h.b.tape, hgr.output.trans h.b.output, Nat.le_trans h.b.size hgr.size, fun k hk => ?_⟩
    rw [hgr.block k (by have := h.b.size; omega) ?_]
    · exact h.b.block k hk
    · intro e
      have := (h.ww.lt e.symm).2.1
      omega
  · simpa [Iv] using own7
theorem LS.mk_start {g' B : Nat} (h : LT w W t g B T) (hB : B ≤ 125) (hr : W.heap[r]? = some (.cells (ac R) 27)) (hne : g ≠ r) (hlo : w.heap.size ≤ r) (hq : W.heap[g']? = some (.cells #[I 1] 3)) (hg' : w.heap.size ≤ g') : LS w W t g r T R (.slice (some ⟨g', 0, none⟩) 1 1) [1] := by
  refine ⟨h.q.mono hB, h.b, h.h, hr, ⟨h.l, hlo⟩, hne, rfl, .inr ⟨g', 0, 1, _, rfl, hg', hq, by decide, by unfold maxLen; decide, by decide, fun j u hj => ?_⟩⟩
  match j, hj with
  | 0, hj => simpa [Iv] using hj
end
/-- The names that were told. -/
def NL (W : World) (ad : Option Addr) (ns : List ByteArray) : Prop := ∀ (k : Nat) s, ns[k]? = some s → ∃ g, ad = some ⟨g, 0, none⟩ ∧ g < W.heap.size ∧ W.cell? ⟨g, k, none⟩ = some (.string s) ∧ ∃ cur, W.heap[g]? = some (.cells cur 9 (0, 0))
theorem NL.below {W W' : World} {ad : Option Addr} {ns : List ByteArray} (h : NL W ad ns) (k : Below W.heap.size W W') : NL W' ad ns := fun j s hj => by
  obtain ⟨g, h1, h2, h3, cur, h4⟩ := h j s hj
  exact ⟨g, h1, Nat.lt_of_lt_of_le h2 k.size, (cell_same (k.block g h2) j).trans h3, cur, (k.block g h2).trans h4⟩
theorem NL.keep {W W' : World} {ad : Option Addr} {ns : List ByteArray} (h : NL W ad ns) (hs : W.heap.size ≤ W'.heap.size) (hk : ∀ (k : Nat) (cur : Array Value), W.heap[k]? = some (.cells cur 9 (0, 0)) → W'.heap[k]? = W.heap[k]?) : NL W' ad ns := fun j s hj => by
  obtain ⟨g, h1, h2, h3, cur, h4⟩ := h j s hj
  exact ⟨g, h1, Nat.lt_of_lt_of_le h2 hs, (cell_same (hk g cur h4) j).trans h3, cur, (hk g cur h4).trans h4⟩
theorem Rs.nl {lo : Nat} {W : World} {v : Value} {ns : List ByteArray} (h : Rs lo W v ns) : ∃ ad cap, v = .slice ad ns.length cap ∧ NL W ad ns := by
  by_cases hn : ns.length = 0
  · obtain ⟨ad, cap, hv⟩ := own_form h
    refine ⟨ad, cap, hv, fun k s hk => ?_⟩
    rw [List.eq_nil_of_length_eq_zero hn] at hk
    simp at hk
  · obtain ⟨g, cap, cur, hv, hb, hg, _, _, _, hc⟩ := own_open h hn
    exact ⟨_, cap, hv, fun k s hk => ⟨g, rfl, lt_of_heap hg, hc k (.string s) (by simp only [strV, List.getElem?_map, hk]; rfl), cur, hg⟩⟩

theorem new_hd (a b : Nat) (n : Int) : (Tr.new a b).hd n = 0 := by
  unfold Tr.hd Tr.new
  by_cases e : n = 1 <;> simp [e]
theorem live_le {B : Nat} {T : Tr} (h : Wf B T) : T.live ≤ B + 1 := by
  have h1 := cnt_le (T.made + 1) (fun k => (T.nd (k : Int)).isSome)
  have h2 := h.k.made
  unfold Tr.live
  omega
def blkOf (n : Nat) : Code → Option Code
  | .block k c => if k = n then some (.block k c) else blkOf n c
  | .loop c => blkOf n c
  | .scope c => blkOf n c
  | .seq a b => match blkOf n a with
    | some c => some c
    | none => blkOf n b
  | .cond _ a b => match blkOf n a with
    | some c => some c
    | none => blkOf n b
  | _ => none
set_option maxRecDepth 1000000 in
abbrev R0 (w : World) (t g len cap : Nat) (pa : Option Addr) (c1 c4 c141 c142 c143 c144 c145 c146 c147 c148 c149 c150 c151 c152 c153 c154 c155 c156 c157 c158 c159 c160 c161 c162 c163 c164 c165 c166 c167 c168 c169 c170 c171 c172 c173 c174 c175 c176 c177 c178 c179 c180 c181 c182 c183 c184 c185 c186 c187 c188 c189 c190 c191 c192 c193 c194 c195 c196 c197 c198 c199 c200 c201 c202 c203 c204 c205 c206 c207 c208 c209 c210 c211 c212 c213 c214 c215 c216 c217 c218 c219 c220 c221 c222 c223 c224 c225 c226 c227 c228 c229 c230 c231 c232 c233 c234 c235 c236 c237 c238 c239 c240 c241 c242 c243 c244 c245 c246 c247 : Value) : Act → World → Prop := fun a' wx => ∃ d2 d6 d7 d8 d9 d10 d11 d12 d13 d14 d15 d16 d17 d18 d19 d20 d21 d22 d23 d24 d25 d26 d27 d28 d29 d30 d31 d32 d33 d34 d35 d36 d37 d38 d39 d40 d41 d42 d43 d44 d45 d46 d47 d48 d49 d50 d51 d52 d53 d54 d55 d56 d57 d58 d59 d60 d61 d62 d63 d64 d65 d66 d67 d68 d69 d70 d71 d72 d73 d74 d75 d76 d77 d78 d79 d80 d81 d82 d83 d84 d85 d86 d87 d88 d89 d90 d91 d92 d93 d94 d95 d96 d97 d98 d99 d100 d101 d102 d103 d104 d105 d106 d107 d108 d109 d110 d111 d112 d113 d114 d115 d116 d117 d118 d119 d120 d121 d122 d123 d124 d125 d126 d127 d128 d129 d130 d131 d132 d133 d134 d135 d136 d137 d138 d139 d140 : Value, (fun wc => ∃ (j : Nat) (T : Tr), j ≤ 60 ∧ Hid (LT w wc t g (1 + 2 * j) T)) wx ∧ a' = ⟨#[.slice pa len cap, c1, d2, P0 t, c4, .pointer (some ⟨g, 0, none⟩), d6, d7, d8, d9, d10, d11, d12, d13, d14, d15, d16, d17, d18, d19, d20, d21, d22, d23, d24, d25, d26, d27, d28, d29, d30, d31, d32, d33, d34, d35, d36, d37, d38, d39, d40, d41, d42, d43, d44, d45, d46, d47, d48, d49, d50, d51, d52, d53, d54, d55, d56, d57, d58, d59, d60, d61, d62, d63, d64, d65, d66, d67, d68, d69, d70, d71, d72, d73, d74, d75, d76, d77, d78, d79, d80, d81, d82, d83, d84, d85, d86, d87, d88, d89, d90, d91, d92, d93, d94, d95, d96, d97, d98, d99, d100, d101, d102, d103, d104, d105, d106, d107, d108, d109, d110, d111, d112, d113, d114, d115, d116, d117, d118, d119, d120, d121, d122, d123, d124, d125, d126, d127, d128, d129, d130, d131, d132, d133, d134, d135, d136, d137, d138, d139, d140, c141, c142, c143, c144, c145, c146, c147, c148, c149, c150, c151, c152, c153, c154, c155, c156, c157, c158, c159, c160, c161, c162, c163, c164, c165, c166, c167, c168, c169, c170, c171, c172, c173, c174, c175, c176, c177, c178, c179, c180, c181, c182, c183, c184, c185, c186, c187, c188, c189, c190, c191, c192, c193, c194, c195, c196, c197, c198, c199, c200, c201, c202, c203, c204, c205, c206, c207, c208, c209, c210, c211, c212, c213, c214, c215, c216, c217, c218, c219, c220, c221, c222, c223, c224, c225, c226, c227, c228, c229, c230, c231, c232, c233, c234, c235, c236, c237, c238, c239, c240, c241, c242, c243, c244, c245, c246, c247], []⟩
set_option maxRecDepth 1000000 in
abbrev R3 (w : World) (t g r : Nat) (T : Tr) (c0 c1 c4 c6 c7 c8 c9 c209 c210 c211 c212 c213 c214 c215 c216 c217 c218 c219 c220 c221 c222 c223 c224 c225 c226 c227 c228 c229 c230 c231 c232 c233 c234 c235 c236 c237 c238 c239 c240 c241 c242 c243 c244 c245 c246 c247 : Value) : Act → World → Prop := fun a' wx => ∃ d2 d11 d12 d13 d14 d15 d16 d17 d18 d19 d20 d21 d22 d23 d24 d25 d26 d27 d28 d29 d30 d31 d32 d33 d34 d35 d36 d37 d38 d39 d40 d41 d42 d43 d44 d45 d46 d47 d48 d49 d50 d51 d52 d53 d54 d55 d56 d57 d58 d59 d60 d61 d62 d63 d64 d65 d66 d67 d68 d69 d70 d71 d72 d73 d74 d75 d76 d77 d78 d79 d80 d81 d82 d83 d84 d85 d86 d87 d88 d89 d90 d91 d92 d93 d94 d95 d96 d97 d98 d99 d100 d101 d102 d103 d104 d105 d106 d107 d108 d109 d110 d111 d112 d113 d114 d115 d116 d117 d118 d119 d120 d121 d122 d123 d124 d125 d126 d127 d128 d129 d130 d131 d132 d133 d134 d135 d136 d137 d138 d139 d140 d141 d142 d143 d144 d145 d146 d147 d148 d149 d150 d151 d152 d153 d154 d155 d156 d157 d158 d159 d160 d161 d162 d163 d164 d165 d166 d167 d168 d169 d170 d171 d172 d173 d174 d175 d176 d177 d178 d179 d180 d181 d182 d183 d184 d185 d186 d187 d188 d189 d190 d191 d192 d193 d194 d195 d196 d197 d198 d199 d200 d201 d202 d203 d204 d205 d206 d207 d208 : Value, (fun wd => ∃ V R qv, Hid (Bf T V []) ∧ Hid (∀ n : Nat, n < 200 → R n = (T.met V (n : Int) : Int)) ∧ Hid (LS w wd t g r T R qv [])) wx ∧ a' = ⟨#[c0, c1, d2, P0 t, c4, .pointer (some ⟨g, 0, none⟩), c6, c7, c8, c9, .pointer (some ⟨r, 0, none⟩), d11, d12, d13, d14, d15, d16, d17, d18, d19, d20, d21, d22, d23, d24, d25, d26, d27, d28, d29, d30, d31, d32, d33, d34, d35, d36, d37, d38, d39, d40, d41, d42, d43, d44, d45, d46, d47, d48, d49, d50, d51, d52, d53, d54, d55, d56, d57, d58, d59, d60, d61, d62, d63, d64, d65, d66, d67, d68, d69, d70, d71, d72, d73, d74, d75, d76, d77, d78, d79, d80, d81, d82, d83, d84, d85, d86, d87, d88, d89, d90, d91, d92, d93, d94, d95, d96, d97, d98, d99, d100, d101, d102, d103, d104, d105, d106, d107, d108, d109, d110, d111, d112, d113, d114, d115, d116, d117, d118, d119, d120, d121, d122, d123, d124, d125, d126, d127, d128, d129, d130, d131, d132, d133, d134, d135, d136, d137, d138, d139, d140, d141, d142, d143, d144, d145, d146, d147, d148, d149, d150, d151, d152, d153, d154, d155, d156, d157, d158, d159, d160, d161, d162, d163, d164, d165, d166, d167, d168, d169, d170, d171, d172, d173, d174, d175, d176, d177, d178, d179, d180, d181, d182, d183, d184, d185, d186, d187, d188, d189, d190, d191, d192, d193, d194, d195, d196, d197, d198, d199, d200, d201, d202, d203, d204, d205, d206, d207, d208, c209, c210, c211, c212, c213, c214, c215, c216, c217, c218, c219, c220, c221, c222, c223, c224, c225, c226, c227, c228, c229, c230, c231, c232, c233, c234, c235, c236, c237, c238, c239, c240, c241, c242, c243, c244, c245, c246, c247], []⟩

end Go.Proofs.Ytlngeaacjbdmhaa
