/-
  What stays so while a tree is changed by small changes: short texts, mounts of small numbers; walks in such a tree.
-/
import Derived.Test.YtlngeaacjbdmhaaGreatMp32
namespace Go.Proofs.YtlngeaacjbdmhaaGreat.Bt
open Go.RowKit
def Sub (T T' : Tr) : Prop := ∀ n x', T'.nd n = some x' → ∃ x, T.nd n = some x ∧ x'.text = x.text
section
variable {T T' T2 : Tr} {M M' : Mt.T} {k : Nat}
theorem Sub.refl (T : Tr) : Sub T T := fun _ x h => ⟨x, h, rfl⟩
theorem Sub.trans (h : Sub T T') (g : Sub T' T2) : Sub T T2 := fun n x hx => by
  obtain ⟨y, h1, h2⟩ := g n x hx
  obtain ⟨z, h3, h4⟩ := h n y h1
  exact ⟨z, h3, h2.trans h4⟩
theorem Sub.set {n : Int} {x y : Nd} (hx : T.nd n = some x) (h : y.text = x.text) : Sub T (T.set n (some y)) := fun j z hz => by
  by_cases e : j = n
  · rw [e, Tr.set_same] at hz
    cases hz
    exact ⟨x, by rw [e]; exact hx, h⟩
  · rw [Tr.set_other _ _ e] at hz
    exact ⟨z, hz, rfl⟩
theorem Sub.none (n : Int) : Sub T (T.set n none) := fun j z hz => by
  by_cases e : j = n
  · rw [e, Tr.set_same] at hz
    cases hz
  · rw [Tr.set_other _ _ e] at hz
    exact ⟨z, hz, rfl⟩
theorem Sub.give (dir : Int) (s : ByteArray) (n : Int) : Sub T (T.give dir s n) := by
  unfold Tr.give
  split
  · rename_i d x hd hx
    intro j z hz
    by_cases e : j = n
    · rw [e, Tr.set_same] at hz
      cases hz
      exact ⟨x, by rw [e]; exact hx, rfl⟩
    · rw [Tr.set_other _ _ e] at hz
      exact Sub.set (y := { d with ins := putE d.ins s n }) hd rfl j z hz
  · exact .refl _
theorem Sub.leave (n : Int) : Sub T (T.leave n) := by
  unfold Tr.leave
  split
  · split
    · exact .refl _
    · exact fun j z hz => Sub.none n j z hz
  · exact .refl _
theorem Sub.less (n : Int) : Sub T (T.less n) := by
  unfold Tr.less
  split
  · rename_i x hx
    exact .set hx rfl
  · exact .refl _
theorem Sub.take (dir : Int) (s : ByteArray) : Sub T (T.take dir s) := by
  unfold Tr.take
  split
  · rename_i d hd
    split
    · exact ((Sub.set (y := { d with ins := delE d.ins s }) hd rfl).trans (.less _)).trans (.leave _)
    · exact .refl _
  · exact .refl _
theorem Sub.join (dir : Int) (s : ByteArray) (n : Int) : Sub T (T.join dir s n) := by
  unfold Tr.join
  split
  · exact .give _ _ _
  · exact .refl _
theorem Sub.part (dir : Int) (s : ByteArray) : Sub T (T.part dir s) := by
  unfold Tr.part
  split
  · exact .take _ _
  · exact .refl _
theorem Sub.move (l : List Int) (dir : Int) (s : ByteArray) (tq : Int) (s2 : ByteArray) : Sub T (T.move l dir s tq s2) := by
  unfold Tr.move
  split
  · split
    · split
      · split
        · exact .refl _
        · exact ((Sub.take _ _).trans (.give _ _ _)).trans (.take _ _)
      · exact (Sub.give _ _ _).trans (.take _ _)
    · exact .refl _
  · exact .refl _
theorem Sub.hold (n : Int) : Sub T (T.hold n) := by
  unfold Tr.hold
  split
  · rename_i x hx
    exact .set hx rfl
  · exact .refl _
theorem Sub.setMode (n m : Int) : Sub T (T.setMode n m) := by
  unfold Tr.setMode
  split
  · rename_i x hx
    exact .set hx rfl
  · exact .refl _
theorem Sub.setOwner (n u g : Int) : Sub T (T.setOwner n u g) := by
  unfold Tr.setOwner
  split
  · rename_i x hx
    exact .set hx rfl
  · exact .refl _
structure Inv (T : Tr) (M : Mt.T) : Prop where
  t : ∀ n x, T.nd n = some x → x.text.size ≤ 9
  m : ∀ p ∈ M.es, (1 ≤ p.top ∧ p.top ≤ 7) ∧ (1 ≤ p.an ∧ p.an ≤ 7)
  r : M.rt = 1
theorem Inv.sub (h : Inv T M) (g : Sub T T') : Inv T' M := ⟨fun n x hx => by
  obtain ⟨y, h1, h2⟩ := g n x hx
  rw [h2]
  exact h.t n y h1, h.m, h.r⟩
theorem Inv.new : Inv (Tr.new 40 20) ⟨1, 0, []⟩ := ⟨fun n x hx => by
  simp only [Tr.new] at hx
  split at hx
  · cases hx
    decide
  · exact absurd hx (by simp), fun p hp => by simp at hp, rfl⟩
theorem texts9 {s : ByteArray} (h : s ∈ texts) : s.size ≤ 9 := by
  simp only [texts, List.mem_cons, List.not_mem_nil, or_false] at h
  rcases h with rfl | rfl | rfl | rfl | rfl | rfl | rfl | rfl | rfl | rfl <;> decide
theorem Inv.make (h : Inv T M) (dir : Int) (s : ByteArray) (kd mo ui gi : Int) (text : ByteArray) (ht : text.size ≤ 9) : Inv (T.make dir s kd mo ui gi text) M := by
  unfold Tr.make
  split
  · refine Inv.sub ⟨fun n x hx => ?_, h.m, h.r⟩ (.give _ _ _)
    simp only [Tr.add] at hx
    split at hx
    · cases hx; exact ht
    · exact h.t n x hx
  · exact h
theorem Inv.unbind (h : Inv T M) (n : Int) : Inv T (M.unbind n) := by
  unfold Mt.T.unbind
  split
  · exact ⟨h.t, fun p hp => h.m p (List.mem_filter.1 hp).1, h.r⟩
  · exact h
theorem Inv.bind (h : Inv T M) {x : Ac} (hx : Tm x) : Inv (bindT T M x) (bindM T M x) := by
  have h1 : Sub T (bindT T M x) := by
    unfold bindT
    split
    · exact (Sub.hold _).trans (.hold _)
    · exact .refl _
  refine Inv.sub (T := T) ?_ h1
  unfold bindM
  split
  · unfold Mt.T.bind
    split
    · refine ⟨h.t, fun p hp => ?_, h.r⟩
      rcases List.mem_append.1 hp with hp | hp
      · exact h.m p hp
      · simp only [List.mem_singleton] at hp
        subst hp
        exact ⟨hx.tq, hx.an⟩
    · exact h
  · exact h
theorem Inv.step (h : Inv T M) {x : Ac} (hx : Tm x) (hs : Stp x T T' M M') : Inv T' M' := by
  rcases hs with ⟨k, rfl, rfl⟩ | ⟨-, rfl, rfl⟩ | ⟨-, rfl, rfl⟩ | ⟨-, ⟨l, -, rfl⟩, rfl⟩ | ⟨-, rfl, rfl⟩ | ⟨-, rfl, rfl⟩ | ⟨-, rfl, rfl⟩ | ⟨rfl, rfl⟩
  · refine h.make _ _ _ _ _ _ _ ?_
    rcases hx.ad with ⟨k2, -⟩ | ⟨-, -, -, ⟨-, e⟩ | ⟨-, e⟩⟩
    · exact absurd k k2
    · rw [e]; decide
    · exact texts9 e
  · exact h.sub (.join _ _ _)
  · exact h.sub (.part _ _)
  · exact h.sub (.move _ _ _ _ _)
  · exact h.sub (.setMode _ _)
  · exact h.bind hx
  · exact h.unbind _
  · exact h.sub (.setOwner _ _ _)
end
def Eb (T : Tr) (M : Mt.T) (cu cg : Int) (fo : Bool) : Wl.En := ⟨T, M.rt, M.md, M.es, cu, cg, 0, 1, fo⟩
section
variable {t m r R l0 l1 B : Nat} {K : Int} {w W W' : World} {T T2 : Tr} {M M2 : Mt.T} {rs : List Mt.Rm}
theorem Bx.wd (s : Bx t m r R l0 l1 B K w W T T2 M M2 rs) (hB : B ≤ 860) (hi : Inv T M) (cu cg : Int) (fo : Bool) : Wl.Wd l0 20 m W t m (Eb T M cu cg fo) :=
  ⟨s.q.p, s.q.f.k.mono (by omega), s.a.ls, s.a.wf.eld, by have := s.a.wf.le; simp only [Eb]; omega, fun p hp => by
    obtain ⟨h1, h2⟩ := hi.m p hp
    exact ⟨wf_of (by omega), wf_of (by omega)⟩⟩
theorem Inv.short (hi : Inv T M) (cu cg : Int) (fo : Bool) : (Eb T M cu cg fo).Short 9 := fun n => by
  simp only [Wl.En.text, Eb, Tr.textOf]
  cases hx : T.nd n with
  | none => simp
  | some x => exact hi.t n x hx
end
structure Bz (t m r R l0 l1 yb yc : Nat) (cu cg : Int) (B : Nat) (K : Int) (w W : World) (T : Tr) (M : Mt.T) (rs : List Mt.Rm) : Prop where
  s : Bx t m r R l0 l1 B K w W T T M M rs
  hb : W.heap[yb]? = some (.cells #[P0 t, P0 m, P0 r, P0 (R + 1)] 46)
  hc : W.heap[yc]? = some (.cells #[I cu, I cg] 57)
section
variable {t m r R l0 l1 yb yc B B' : Nat} {cu cg K K' : Int} {w W W' : World} {T T' : Tr} {M M' : Mt.T} {rs rs' : List Mt.Rm}
theorem Bz.below (h : Bz t m r R l0 l1 yb yc cu cg B K w W T M rs) (g : Below W.heap.size W W') : Bz t m r R l0 l1 yb yc cu cg B K w W' T M rs := ⟨h.s.below g, (g.block _ (lt_of_heap h.hb)).trans h.hb, (g.block _ (lt_of_heap h.hc)).trans h.hc⟩
theorem Bz.drew (h : Bz t m r R l0 l1 yb yc cu cg B K w W T M rs) : Bz t m r R l0 l1 yb yc cu cg B K w W.drew T M rs := h.below ⟨rfl, rfl, rfl, Nat.le_refl _, fun _ _ => rfl⟩
theorem Bz.step (h : Bz t m r R l0 l1 yb yc cu cg B K w W T M rs) (g : Bx t m r R l0 l1 B' K' w W' T' T' M' M' rs') (k : Kp W W') : Bz t m r R l0 l1 yb yc cu cg B' K' w W' T' M' rs' := ⟨g, k _ _ _ _ h.hb own_both, k _ _ _ _ h.hc own_cred⟩
theorem Bz.cb (h : Bz t m r R l0 l1 yb yc cu cg B K w W T M rs) : W.cell? ⟨yb, 0, none⟩ = some (P0 t) ∧ W.cell? ⟨yb, 1, none⟩ = some (P0 m) ∧ W.cell? ⟨yb, 2, none⟩ = some (P0 r) ∧ W.cell? ⟨yb, 3, none⟩ = some (P0 (R + 1)) := by
  refine ⟨?_, ?_, ?_, ?_⟩ <;> (rw [cell_of h.hb]; rfl)
end
end Go.Proofs.YtlngeaacjbdmhaaGreat.Bt

namespace Go.Proofs.YtlngeaacjbdmhaaGreat.Wl
theorem down_end {md : Int} {es : Mt.Ents} (h : Mt.Eld md es) : ∀ (k : Nat) (m n : Int), Mt.fuel md m ≤ k → Mt.any es (Mt.isAt (Mt.down md es m n).1 (Mt.down md es m n).2) = false := by
  intro k
  induction k with
  | zero =>
    intro m n hk
    cases ha : Mt.any es (Mt.isAt m n) with
    | false => rw [Mt.down_stop ha]; exact ha
    | true =>
      obtain ⟨h1, h2⟩ := h.next ha
      simp only [Mt.fuel] at hk
      omega
  | succ k ih =>
    intro m n hk
    cases ha : Mt.any es (Mt.isAt m n) with
    | false => rw [Mt.down_stop ha]; exact ha
    | true =>
      obtain ⟨h1, h2⟩ := h.next ha
      rw [Mt.down_step h ha]
      exact ih _ _ (by simp only [Mt.fuel] at *; omega)
theorem down_root {md : Int} {es : Mt.Ents} (h : Mt.Eld md es) : ∀ (k : Nat) (m n : Int), Mt.fuel md m ≤ k → Mt.rootIs es m = true → Mt.rootIs es (Mt.down md es m n).1 = true := by
  intro k
  induction k with
  | zero =>
    intro m n hk hr
    cases ha : Mt.any es (Mt.isAt m n) with
    | false => rw [Mt.down_stop ha]; exact hr
    | true =>
      obtain ⟨h1, h2⟩ := h.next ha
      simp only [Mt.fuel] at hk
      omega
  | succ k ih =>
    intro m n hk hr
    cases ha : Mt.any es (Mt.isAt m n) with
    | false => rw [Mt.down_stop ha]; exact hr
    | true =>
      obtain ⟨h1, h2⟩ := h.next ha
      rw [Mt.down_step h ha]
      refine ih _ _ (by simp only [Mt.fuel] at *; omega) ?_
      unfold Mt.rootIs
      split
      · rfl
      · exact Mt.any_iff.2 ⟨_, (Mt.fst_mem ha).1, by simp [Mt.isN]⟩
structure Mk (E : En) : Prop where
  el : Mt.Eld E.md E.es
  up : ∀ p ∈ E.es, Mt.rootIs E.es p.am = true
def Ok (E : En) (am an : Int) : Prop := E.down am an = (am, an) ∧ Mt.rootIs E.es am = true
section
variable {E : En}
theorem Ok.down (h : Mk E) {m : Int} (hr : Mt.rootIs E.es m = true) (n : Int) : Ok E (E.down m n).1 (E.down m n).2 := ⟨Mt.down_stop (down_end h.el _ m n (Nat.le_refl _)), down_root h.el _ m n (Nat.le_refl _) hr⟩
theorem upF_root (h : Mk E) : ∀ (k : Nat) (m n : Int), Mt.rootIs E.es m = true → Mt.rootIs E.es (upF E.es k m n).1 = true := by
  intro k
  induction k with
  | zero => intro m n hr; exact hr
  | succ k ih =>
    intro m n hr
    unfold upF
    split
    · rename_i hu
      refine ih _ _ ?_
      rw [Mt.upM, if_pos hu]
      have h1 : Mt.any E.es (Mt.isN m) = true := by
        unfold Mt.upIs at hu
        simp at hu
        exact hu.1
      exact h.up _ (Mt.fst_mem h1).1
    · exact hr
theorem Ok.dots (h : Mk E) {am an : Int} (ho : Ok E am an) (p : Bytes) : Ok E (E.dots p am an).1 (E.dots p am an).2 := by
  unfold En.dots
  split
  · exact ho
  · exact Ok.down h (upF_root h _ _ _ ho.2) _
theorem Ok.find (h : Mk E) {am an : Int} (ho : Ok E am an) {p : Bytes} {t : Int × Int} (hf : E.find p am an = some t) : Ok E t.1 t.2 := by
  unfold En.find at hf
  obtain ⟨n, -, rfl⟩ := Option.map_eq_some_iff.1 hf
  exact Ok.down h ho.2 n
def wt (ps : List Bytes) : Nat := (ps.map fun p => p.length + 1).sum
theorem wt_app (a b : List Bytes) : wt (a ++ b) = wt a + wt b := by simp [wt]
theorem join_len : ∀ ps : List Bytes, (Nm.joinS ps).length ≤ wt ps
  | [] => by simp [Nm.joinS, wt]
  | [a] => by simp [Nm.joinS, wt]
  | a :: b :: l => by
    have := join_len (b :: l)
    simp only [Nm.joinS, List.length_append, List.length_cons, wt, List.map_cons, List.sum_cons] at this ⊢
    omega
theorem pw_len (sl : Bool) (ps : List Bytes) : (Nm.pw false sl ps).length ≤ wt ps + 1 := by
  have := join_len ps
  simp only [Nm.pw, Bool.false_eq_true, if_false, List.nil_append, List.length_append]
  split
  · simp only [List.length_cons, List.length_nil]; omega
  · simp only [List.length_nil]; omega
theorem split_wt : ∀ l : Bytes, wt (Nm.split l) = l.length + 1
  | [] => by simp [Nm.split, wt]
  | c :: l => by
    have ih := split_wt l
    simp only [Nm.split]
    split
    · simp only [wt, List.map_cons, List.sum_cons, List.length_nil, List.length_cons] at ih ⊢; omega
    · split
      · rename_i e
        rw [e] at ih
        simp [wt] at ih
      · rename_i e
        rw [e] at ih
        simp only [wt, List.map_cons, List.sum_cons, List.length_cons] at ih ⊢; omega
theorem wt_filter (f : Bytes → Bool) : ∀ ps : List Bytes, wt (ps.filter f) ≤ wt ps
  | [] => by simp [wt]
  | a :: l => by
    have := wt_filter f l
    rw [List.filter_cons]
    split
    · simp only [wt, List.map_cons, List.sum_cons] at this ⊢; omega
    · simp only [wt, List.map_cons, List.sum_cons] at this ⊢; omega
theorem ps_wt (l : Bytes) : wt (Nm.ps l) ≤ l.length + 1 := by
  unfold Nm.ps
  split
  · exact Nat.le_trans (wt_filter _ _) (Nat.le_of_eq (split_wt l))
  · simp [wt]
theorem onE_same (hE : E.Short 9) (fol : Nat) (n : Int) {sl sl' : Bool} {r r' : List Bytes} (h : wt r ≤ 4000) (h' : wt r' ≤ 4000) : onE fol (E.text n) sl r = onE fol (E.text n) sl' r' := by
  have h1 := hE n
  have h2 := pw_len sl r
  have h3 := pw_len sl' r'
  unfold onE
  rw [if_neg (show ¬ 4096 < (E.text n).length + (Nm.pw false sl r).length by omega), if_neg (show ¬ 4096 < (E.text n).length + (Nm.pw false sl' r').length by omega)]
theorem par_cons (E : En) (fol : Nat) (slash : Bool) (p : Bytes) (rest : List Bytes) (dm dn : Int) (last : Bytes) (am an : Int) (s : Nat) : E.par fol slash (p :: rest) dm dn last am an s =
    (if E.refusal an = 0 then
      if isDots p = true then E.par fol slash rest dm dn [] (E.dots p am an).1 (E.dots p am an).2 (s + 1)
      else match E.find p am an with
        | none => ⟨none, missF p rest slash am an, missE rest, am, an, s + 1⟩
        | some t => if E.goes t.2 rest slash = true then
            (if onE fol (E.text t.2) slash rest = 0 then ⟨some (onP (E.text t.2) slash rest), Fd.none, 0, am, an, s + 1⟩ else ⟨none, Fd.none, onE fol (E.text t.2) slash rest, am, an, s + 1⟩)
          else E.par fol slash rest am an p t.1 t.2 (s + 1)
    else ⟨none, Fd.none, E.refusal an, am, an, s + 1⟩) := by rw [En.par]; cases E.find p am an <;> rfl
def Al (a b : Re) : Prop := a.next = b.next ∧ a.f = b.f ∧ a.why = b.why ∧ a.am = b.am ∧ a.an = b.an
theorem Al.refl (a : Re) : Al a a := ⟨rfl, rfl, rfl, rfl, rfl⟩
theorem par_al (fol : Nat) (slash : Bool) : ∀ (ps : List Bytes) (dm dn dm' dn' : Int) (last last' : Bytes) (am an : Int) (s s' : Nat), (ps ≠ [] ∨ (last = [] ∧ last' = [])) → Al (E.par fol slash ps dm dn last am an s) (E.par fol slash ps dm' dn' last' am an s') := by
  intro ps
  induction ps with
  | nil =>
    intro dm dn dm' dn' last last' am an s s' h
    obtain ⟨rfl, rfl⟩ := h.resolve_left (by simp)
    simp [En.par, Al, En.endF]
  | cons p rest ih =>
    intro dm dn dm' dn' last last' am an s s' _
    unfold En.par
    by_cases h1 : E.refusal an = 0
    · rw [if_pos h1, if_pos h1]
      by_cases h2 : isDots p = true
      · rw [if_pos h2, if_pos h2]
        exact ih _ _ _ _ _ _ _ _ _ _ (.inr ⟨rfl, rfl⟩)
      · rw [if_neg h2, if_neg h2]
        cases E.find p am an with
        | none => exact ⟨rfl, rfl, rfl, rfl, rfl⟩
        | some t =>
          simp only
          by_cases h3 : E.goes t.2 rest slash = true
          · rw [if_pos h3, if_pos h3]
            by_cases h4 : onE fol (E.text t.2) slash rest = 0
            · rw [if_pos h4, if_pos h4]; exact ⟨rfl, rfl, rfl, rfl, rfl⟩
            · rw [if_neg h4, if_neg h4]; exact ⟨rfl, rfl, rfl, rfl, rfl⟩
          · rw [if_neg h3, if_neg h3]
            cases rest with
            | nil => simp [En.par, Al, En.endF]
            | cons a l => exact ih _ _ _ _ _ _ _ _ _ _ (.inl (by simp))
    · rw [if_neg h1, if_neg h1]; exact ⟨rfl, rfl, rfl, rfl, rfl⟩
theorem goes_follow (hf : E.follow = true) (n : Int) (r r' : List Bytes) (s s' : Bool) : E.goes n r s = E.goes n r' s' := by
  simp [En.goes, hf]
theorem par_sim (hm : Mk E) (hE : E.Short 9) (hf : E.follow = true) (fol : Nat) (sq : Bool) {Q : List Bytes} (hQ : Q ≠ []) : ∀ (P : List Bytes) (dm dn dm' dn' : Int) (last last' : Bytes) (am an : Int) (s s' : Nat), Ok E am an → wt (P ++ Q) ≤ 4000 →
    (∀ q, (E.par fol true P dm dn last am an s).next = some q → q.slash = true ∧ wt q.parts ≤ wt P + 10 ∧ (E.par fol sq (P ++ Q) dm' dn' last' am an s').next = some ⟨q.root, sq, q.parts ++ Q⟩ ∧ (E.par fol sq (P ++ Q) dm' dn' last' am an s').am = (E.par fol true P dm dn last am an s).am ∧ (E.par fol sq (P ++ Q) dm' dn' last' am an s').an = (E.par fol true P dm dn last am an s).an ∧ Ok E (E.par fol true P dm dn last am an s).am (E.par fol true P dm dn last am an s).an) ∧
    ((E.par fol true P dm dn last am an s).next = none → ((E.par fol true P dm dn last am an s).why ≠ 0 ∨ (E.par fol true P dm dn last am an s).f.has = false) → (E.par fol sq (P ++ Q) dm' dn' last' am an s').next = none ∧ (E.par fol sq (P ++ Q) dm' dn' last' am an s').why ≠ 0) ∧
    ((E.par fol true P dm dn last am an s).next = none → (E.par fol true P dm dn last am an s).why = 0 → (E.par fol true P dm dn last am an s).f.has = true → Ok E (E.par fol true P dm dn last am an s).f.am (E.par fol true P dm dn last am an s).f.an ∧ E.T.kindOf (E.par fol true P dm dn last am an s).f.an = 1 ∧
      ∃ a b c d, E.par fol sq (P ++ Q) dm' dn' last' am an s' = E.par fol sq Q a b c (E.par fol true P dm dn last am an s).f.am (E.par fol true P dm dn last am an s).f.an d) := by
  intro P
  induction P with
  | nil =>
    intro dm dn dm' dn' last last' am an s s' ho hw
    have e1 : (E.par fol true [] dm dn last am an s).next = none := rfl
    refine ⟨fun q h => (by rw [e1] at h; cases h), fun _ h => ?_, fun _ h1 h2 => ?_⟩
    · by_cases hk : E.T.kindOf an = 1
      · exfalso
        have hn : ¬ (True ∧ E.T.kindOf an ≠ 1) := fun h => h.2 hk
        simp only [En.par, En.endE, En.endF] at h
        rw [if_neg hn, if_neg hn] at h
        rcases h with h | h
        · exact h rfl
        · split at h <;> simp at h
      · cases Q with
        | nil => exact absurd rfl hQ
        | cons a l =>
          have hr : E.refusal an = 37 := by unfold En.refusal; rw [if_neg hk]
          rw [List.nil_append, par_cons, if_neg (by omega)]
          exact ⟨rfl, by simp only; omega⟩
    · by_cases hk : E.T.kindOf an = 1
      · have hn : ¬ (True ∧ E.T.kindOf an ≠ 1) := fun h => h.2 hk
        have e2 : (E.par fol true [] dm dn last am an s).f.am = am ∧ (E.par fol true [] dm dn last am an s).f.an = an := by
          simp only [En.par, En.endF]
          rw [if_neg hn]
          split <;> exact ⟨rfl, rfl⟩
        rw [e2.1, e2.2]
        exact ⟨ho, hk, dm', dn', last', s', rfl⟩
      · exfalso
        have hn : (True ∧ E.T.kindOf an ≠ 1) := ⟨trivial, hk⟩
        simp only [En.par, En.endE] at h1
        rw [if_pos hn] at h1
        omega
  | cons p rest ih =>
    intro dm dn dm' dn' last last' am an s s' ho hw
    have hw2 : wt (rest ++ Q) ≤ 4000 := by
      simp only [List.cons_append, wt, List.map_cons, List.sum_cons] at hw ⊢
      omega
    have hw3 : wt rest ≤ 4000 := by rw [wt_app] at hw2; omega
    have hne : rest ++ Q ≠ [] := fun e => hQ (List.append_eq_nil_iff.1 e).2
    rw [List.cons_append, par_cons E fol true p rest, par_cons E fol sq p (rest ++ Q)]
    by_cases h1 : E.refusal an = 0
    · rw [if_pos h1, if_pos h1]
      by_cases h2 : isDots p = true
      · rw [if_pos h2, if_pos h2]
        obtain ⟨i1, i2, i3⟩ := ih dm dn dm' dn' [] [] (E.dots p am an).1 (E.dots p am an).2 (s + 1) (s' + 1) (ho.dots hm p) hw2
        refine ⟨fun q hq => ?_, i2, i3⟩
        obtain ⟨j1, j2, j3⟩ := i1 q hq
        exact ⟨j1, by simp only [wt, List.map_cons, List.sum_cons] at j2 ⊢; omega, j3⟩
      · rw [if_neg h2, if_neg h2]
        cases hfd : E.find p am an with
        | none =>
          simp only
          refine ⟨fun q h => by simp at h, fun _ _ => ?_, fun _ h3 h4 => ?_⟩
          · refine ⟨by first | rfl | trivial, ?_⟩
            unfold missE
            rw [if_neg hne]
            omega
          · exfalso
            unfold missF missE at *
            split at h4 <;> simp [Fd.none] at h4
        | some t =>
          simp only
          have hot := ho.find hm hfd
          rw [goes_follow hf t.2 (rest ++ Q) rest sq true]
          by_cases h3 : E.goes t.2 rest true = true
          · rw [if_pos h3, if_pos h3]
            have e3 := onE_same hE fol t.2 (sl := sq) (sl' := true) hw2 hw3
            rw [e3]
            by_cases h4 : onE fol (E.text t.2) true rest = 0
            · rw [if_pos h4, if_pos h4]
              refine ⟨fun q h => ?_, fun h => by simp at h, fun h => by simp at h⟩
              simp only [Option.some.injEq] at h
              subst h
              have hp := ps_wt (E.text t.2)
              have ht := hE t.2
              refine ⟨by simp [onP], ?_, ?_, rfl, rfl, ho⟩
              · simp only [onP, wt_app]
                simp only [wt, List.map_cons, List.sum_cons] at hp ⊢
                omega
              · have hem : (rest ++ Q).isEmpty = false := by
                  cases hh : rest ++ Q with
                  | nil => exact absurd hh hne
                  | cons a b => rfl
                simp [onP, hem, List.append_assoc]
            · rw [if_neg h4, if_neg h4]
              exact ⟨fun q h => by simp at h, fun _ _ => ⟨by first | rfl | trivial, h4⟩, fun _ h5 => absurd h5 h4⟩
          · rw [if_neg h3, if_neg h3]
            obtain ⟨i1, i2, i3⟩ := ih am an am an p p t.1 t.2 (s + 1) (s' + 1) hot hw2
            refine ⟨fun q hq => ?_, i2, i3⟩
            obtain ⟨j1, j2, j3⟩ := i1 q hq
            exact ⟨j1, by simp only [wt, List.map_cons, List.sum_cons] at j2 ⊢; omega, j3⟩
    · rw [if_neg h1, if_neg h1]
      exact ⟨fun q h => by simp at h, fun _ _ => ⟨by first | rfl | trivial, h1⟩, fun _ h2 => absurd h2 h1⟩
end
end Go.Proofs.YtlngeaacjbdmhaaGreat.Wl

namespace Go.Proofs.YtlngeaacjbdmhaaGreat.Wl
section
variable {E : En}
def En.fin (E : En) : Nat → Re → Re
  | 0, r => r
  | k + 1, r => match r.next with
    | none => r
    | some q => E.run k q r.am r.an r.steps
theorem run_fin (E : En) : ∀ (k : Nat) (p : Pa) (am an : Int) (s : Nat), E.run k p am an s = E.fin k (E.one (40 - k) p am an s)
  | 0, p, am, an, s => rfl
  | k + 1, p, am, an, s => by
    rw [En.run, En.fin]
    cases (E.one (40 - (k + 1)) p am an s).next <;> rfl
theorem fin_none (k : Nat) {r : Re} (h : r.next = none) : E.fin k r = r := by
  cases k with
  | zero => rfl
  | succ k => rw [En.fin, h]
theorem fin_some (k : Nat) {r : Re} {q : Pa} (h : r.next = some q) : E.fin (k + 1) r = E.run k q r.am r.an r.steps := by
  rw [En.fin, h]
theorem run_al : ∀ (k : Nat) (p : Pa) (am an : Int) (s s' : Nat), Al (E.run k p am an s) (E.run k p am an s') := by
  intro k
  induction k with
  | zero =>
    intro p am an s s'
    exact par_al 40 p.slash p.parts _ _ _ _ [] [] _ _ s s' (.inr ⟨rfl, rfl⟩)
  | succ k ih =>
    intro p am an s s'
    have h := par_al (E := E) (40 - (k + 1)) p.slash p.parts (E.beg p am an).1 (E.beg p am an).2 (E.beg p am an).1 (E.beg p am an).2 [] [] (E.beg p am an).1 (E.beg p am an).2 s s' (.inr ⟨rfl, rfl⟩)
    rw [run_fin, run_fin]
    change Al (E.one (40 - (k + 1)) p am an s) (E.one (40 - (k + 1)) p am an s') at h
    cases hn : (E.one (40 - (k + 1)) p am an s).next with
    | none =>
      rw [fin_none _ hn, fin_none _ (h.1.symm.trans hn)]
      exact h
    | some q =>
      rw [fin_some _ hn, fin_some _ (h.1.symm.trans hn), h.2.2.2.1, h.2.2.2.2]
      exact ih _ _ _ _ _
theorem fin_al (k : Nat) {r r' : Re} (h : Al r r') : Al (E.fin k r) (E.fin k r') := by
  cases k with
  | zero => exact h
  | succ k =>
    cases hn : r.next with
    | none => rw [fin_none _ hn, fin_none _ (h.1.symm.trans hn)]; exact h
    | some q =>
      rw [fin_some _ hn, fin_some _ (h.1.symm.trans hn), h.2.2.2.1, h.2.2.2.2]
      exact run_al _ _ _ _ _ _
theorem Al.trans {a b c : Re} (h : Al a b) (g : Al b c) : Al a c := ⟨h.1.trans g.1, h.2.1.trans g.2.1, h.2.2.1.trans g.2.2.1, h.2.2.2.1.trans g.2.2.2.1, h.2.2.2.2.trans g.2.2.2.2⟩
theorem Al.symm {a b : Re} (h : Al a b) : Al b a := ⟨h.1.symm, h.2.1.symm, h.2.2.1.symm, h.2.2.2.1.symm, h.2.2.2.2.symm⟩
theorem onE_fuel {f g : Nat} (hf : f ≠ 40) (hg : g ≠ 40) (t : Bytes) (sl : Bool) (r : List Bytes) : onE f t sl r = onE g t sl r := by
  unfold onE; rw [if_neg hf, if_neg hg]
theorem par_fuel {f g : Nat} (hf : f ≠ 40) (hg : g ≠ 40) (slash : Bool) : ∀ (ps : List Bytes) (dm dn : Int) (last : Bytes) (am an : Int) (s : Nat), E.par f slash ps dm dn last am an s = E.par g slash ps dm dn last am an s := by
  intro ps
  induction ps with
  | nil => intros; rfl
  | cons p rest ih =>
    intro dm dn last am an s
    rw [par_cons, par_cons]
    rw [ih]
    cases E.find p am an with
    | none => rfl
    | some t => simp only; rw [ih, onE_fuel hf hg]
theorem par_fuel0 (g : Nat) (slash : Bool) : ∀ (ps : List Bytes) (dm dn : Int) (last : Bytes) (am an : Int) (s : Nat), (E.par 40 slash ps dm dn last am an s).why = 46 ∨ E.par 40 slash ps dm dn last am an s = E.par g slash ps dm dn last am an s := by
  intro ps
  induction ps with
  | nil => intros; exact .inr rfl
  | cons p rest ih =>
    intro dm dn last am an s
    rw [par_cons, par_cons]
    by_cases h1 : E.refusal an = 0
    · rw [if_pos h1, if_pos h1]
      by_cases h2 : isDots p = true
      · rw [if_pos h2, if_pos h2]; exact ih _ _ _ _ _ _
      · rw [if_neg h2, if_neg h2]
        cases E.find p am an with
        | none => exact .inr rfl
        | some t =>
          simp only
          by_cases h3 : E.goes t.2 rest slash = true
          · rw [if_pos h3, if_pos h3]
            have e : onE 40 (E.text t.2) slash rest = 46 := by unfold onE; rw [if_pos rfl]
            rw [if_neg (by rw [e]; omega)]
            exact .inl e
          · rw [if_neg h3, if_neg h3]; exact ih _ _ _ _ _ _
    · rw [if_neg h1, if_neg h1]; exact .inr rfl
theorem run_fuel : ∀ (k k' : Nat) (p : Pa) (am an : Int) (s : Nat), k ≤ k' → k' ≤ 40 → (E.run k p am an s).why = 46 ∨ Al (E.run k p am an s) (E.run k' p am an s) := by
  intro k
  induction k with
  | zero =>
    intro k' p am an s _ h'
    cases k' with
    | zero => exact .inr (Al.refl _)
    | succ k' =>
      have h := par_fuel0 (E := E) (40 - (k' + 1)) p.slash p.parts (E.beg p am an).1 (E.beg p am an).2 [] (E.beg p am an).1 (E.beg p am an).2 s
      have h0 := En.par_last E p.slash p.parts (E.beg p am an).1 (E.beg p am an).2 [] (E.beg p am an).1 (E.beg p am an).2 s
      rcases h with h | h
      · exact .inl h
      · right
        rw [h] at h0
        rw [run_fin, run_fin E (k' + 1), fin_none (k' + 1) (r := E.one (40 - (k' + 1)) p am an s) h0]
        change Al (E.one 40 p am an s) _
        unfold En.one
        rw [h]
        exact Al.refl _
  | succ k ih =>
    intro k' p am an s h h'
    cases k' with
    | zero => omega
    | succ k' =>
      have e : E.one (40 - (k + 1)) p am an s = E.one (40 - (k' + 1)) p am an s := par_fuel (by omega) (by omega) _ _ _ _ _ _ _ _
      rw [run_fin, run_fin E (k' + 1), e]
      cases hn : (E.one (40 - (k' + 1)) p am an s).next with
      | none => rw [fin_none _ hn, fin_none _ hn]; exact .inr (Al.refl _)
      | some q => rw [fin_some _ hn, fin_some _ hn]; exact ih k' q _ _ _ (by omega) (by omega)
theorem run_sim (hm : Mk E) (hE : E.Short 9) (hf : E.follow = true) (hr : Ok E E.rm E.rn) (sq : Bool) {Q : List Bytes} (hQ : Q ≠ []) : ∀ (k : Nat) (root : Bool) (P : List Bytes) (am an : Int) (s s' : Nat), Ok E am an → wt (P ++ Q) + 10 * k ≤ 4000 →
    (((E.run k ⟨root, true, P⟩ am an s).why ≠ 0 ∨ (E.run k ⟨root, true, P⟩ am an s).f.has = false) → (E.run k ⟨root, sq, P ++ Q⟩ am an s').why ≠ 0) ∧
    ((E.run k ⟨root, true, P⟩ am an s).why = 0 → (E.run k ⟨root, true, P⟩ am an s).f.has = true → Ok E (E.run k ⟨root, true, P⟩ am an s).f.am (E.run k ⟨root, true, P⟩ am an s).f.an ∧ E.T.kindOf (E.run k ⟨root, true, P⟩ am an s).f.an = 1 ∧
      ∃ j, j ≤ k ∧ ∃ a b c d, E.run k ⟨root, sq, P ++ Q⟩ am an s' = E.fin j (E.par (40 - j) sq Q a b c (E.run k ⟨root, true, P⟩ am an s).f.am (E.run k ⟨root, true, P⟩ am an s).f.an d)) := by
  intro k
  induction k with
  | zero =>
    intro root P am an s s' ho hw
    have hb : Ok E (E.beg ⟨root, true, P⟩ am an).1 (E.beg ⟨root, true, P⟩ am an).2 := by
      unfold En.beg; split
      · exact hr
      · exact ho
    obtain ⟨-, h2, h3⟩ := par_sim hm hE hf 40 sq hQ P (E.beg ⟨root, true, P⟩ am an).1 (E.beg ⟨root, true, P⟩ am an).2 (E.beg ⟨root, true, P⟩ am an).1 (E.beg ⟨root, true, P⟩ am an).2 [] [] (E.beg ⟨root, true, P⟩ am an).1 (E.beg ⟨root, true, P⟩ am an).2 s s' hb (by omega)
    have h0 := En.par_last E true P (E.beg ⟨root, true, P⟩ am an).1 (E.beg ⟨root, true, P⟩ am an).2 [] (E.beg ⟨root, true, P⟩ am an).1 (E.beg ⟨root, true, P⟩ am an).2 s
    refine ⟨fun h => (h2 h0 h).2, fun a b => ?_⟩
    obtain ⟨g1, g2, x, y, z, u, g3⟩ := h3 h0 a b
    exact ⟨g1, g2, 0, Nat.le_refl _, x, y, z, u, g3⟩
  | succ k ih =>
    intro root P am an s s' ho hw
    have hb : Ok E (E.beg ⟨root, true, P⟩ am an).1 (E.beg ⟨root, true, P⟩ am an).2 := by
      unfold En.beg; split
      · exact hr
      · exact ho
    obtain ⟨h1, h2, h3⟩ := par_sim hm hE hf (40 - (k + 1)) sq hQ P (E.beg ⟨root, true, P⟩ am an).1 (E.beg ⟨root, true, P⟩ am an).2 (E.beg ⟨root, true, P⟩ am an).1 (E.beg ⟨root, true, P⟩ am an).2 [] [] (E.beg ⟨root, true, P⟩ am an).1 (E.beg ⟨root, true, P⟩ am an).2 s s' hb (by omega)
    change (∀ q, (E.one (40 - (k + 1)) ⟨root, true, P⟩ am an s).next = some q → q.slash = true ∧ wt q.parts ≤ wt P + 10 ∧ (E.one (40 - (k + 1)) ⟨root, sq, P ++ Q⟩ am an s').next = some ⟨q.root, sq, q.parts ++ Q⟩ ∧ (E.one (40 - (k + 1)) ⟨root, sq, P ++ Q⟩ am an s').am = (E.one (40 - (k + 1)) ⟨root, true, P⟩ am an s).am ∧ (E.one (40 - (k + 1)) ⟨root, sq, P ++ Q⟩ am an s').an = (E.one (40 - (k + 1)) ⟨root, true, P⟩ am an s).an ∧ Ok E (E.one (40 - (k + 1)) ⟨root, true, P⟩ am an s).am (E.one (40 - (k + 1)) ⟨root, true, P⟩ am an s).an) at h1
    change ((E.one (40 - (k + 1)) ⟨root, true, P⟩ am an s).next = none → ((E.one (40 - (k + 1)) ⟨root, true, P⟩ am an s).why ≠ 0 ∨ (E.one (40 - (k + 1)) ⟨root, true, P⟩ am an s).f.has = false) → (E.one (40 - (k + 1)) ⟨root, sq, P ++ Q⟩ am an s').next = none ∧ (E.one (40 - (k + 1)) ⟨root, sq, P ++ Q⟩ am an s').why ≠ 0) at h2
    change ((E.one (40 - (k + 1)) ⟨root, true, P⟩ am an s).next = none → (E.one (40 - (k + 1)) ⟨root, true, P⟩ am an s).why = 0 → (E.one (40 - (k + 1)) ⟨root, true, P⟩ am an s).f.has = true → Ok E (E.one (40 - (k + 1)) ⟨root, true, P⟩ am an s).f.am (E.one (40 - (k + 1)) ⟨root, true, P⟩ am an s).f.an ∧ E.T.kindOf (E.one (40 - (k + 1)) ⟨root, true, P⟩ am an s).f.an = 1 ∧ ∃ a b c d, E.one (40 - (k + 1)) ⟨root, sq, P ++ Q⟩ am an s' = E.par (40 - (k + 1)) sq Q a b c (E.one (40 - (k + 1)) ⟨root, true, P⟩ am an s).f.am (E.one (40 - (k + 1)) ⟨root, true, P⟩ am an s).f.an d) at h3
    rw [run_fin E (k + 1) ⟨root, true, P⟩, run_fin E (k + 1) ⟨root, sq, P ++ Q⟩]
    cases hn : (E.one (40 - (k + 1)) ⟨root, true, P⟩ am an s).next with
    | none =>
      rw [fin_none (k + 1) hn]
      refine ⟨fun h => ?_, fun a b => ?_⟩
      · obtain ⟨g1, g2⟩ := h2 hn h
        rw [fin_none (k + 1) g1]; exact g2
      · obtain ⟨g1, g2, x, y, z, u, g3⟩ := h3 hn a b
        exact ⟨g1, g2, k + 1, Nat.le_refl _, x, y, z, u, by rw [g3]⟩
    | some q =>
      obtain ⟨j1, j2, j3, j4, j5, j6⟩ := h1 q hn
      rw [fin_some k hn, fin_some k j3, j4, j5]
      obtain ⟨qr, qs, qp⟩ := q
      simp only at j1 j2
      subst j1
      obtain ⟨i1, i2⟩ := ih qr qp _ _ (E.one (40 - (k + 1)) ⟨root, true, P⟩ am an s).steps (E.one (40 - (k + 1)) ⟨root, sq, P ++ Q⟩ am an s').steps j6 (by rw [wt_app] at hw ⊢; omega)
      refine ⟨i1, fun a b => ?_⟩
      obtain ⟨g1, g2, j, hj, r⟩ := i2 a b
      exact ⟨g1, g2, j, by omega, r⟩
end
end Go.Proofs.YtlngeaacjbdmhaaGreat.Wl

namespace Go.Proofs.YtlngeaacjbdmhaaGreat.Wl
section
variable {E : En}
theorem wt_mem {p : Bytes} : ∀ {ps : List Bytes}, p ∈ ps → p.length + 1 ≤ wt ps
  | a :: l, h => by
    simp only [wt, List.map_cons, List.sum_cons]
    rcases List.mem_cons.1 h with rfl | h
    · omega
    · have := wt_mem h
      simp only [wt] at this
      omega
theorem parts_wt (l : Bytes) : wt (Nm.parts l) ≤ l.length + 1 := Nat.le_trans (wt_filter _ _) (Nat.le_of_eq (split_wt l))
theorem err_short {l : Bytes} (h : l ≠ []) (hl : l.length ≤ 255) (h0 : (0 : UInt8) ∉ l) : Nm.err l = 0 :=
  Nm.err_of h (by omega) h0 fun p hp => by
    have h1 := wt_mem hp
    have h2 := parts_wt l
    omega
theorem parts_ne {q : Bytes} (h : q ≠ []) (h0 : ([47] : List UInt8).isPrefixOf q = false) : Nm.parts q ≠ [] := by
  cases q with
  | nil => exact absurd rfl h
  | cons c r =>
    rw [Nm.prefix_cons] at h0
    have hc : c ≠ 47 := by simpa using h0
    rw [Nm.parts_cut]
    have : Nm.before (c :: r) ≠ [] := by simp [Nm.before, hc]
    unfold Nm.piece
    rw [if_neg this]
    simp
theorem parts_end (p : Bytes) : Nm.parts (p ++ [47]) = Nm.parts p := by
  have := Nm.parts_app p []
  rw [this, Nm.parts_nil, List.append_nil]
theorem rt_app {p : Bytes} (hp : p ≠ []) (a : Bytes) : ([47] : List UInt8).isPrefixOf (p ++ a) = ([47] : List UInt8).isPrefixOf p := by
  cases p with
  | nil => exact absurd rfl hp
  | cons c r => rw [List.cons_append, Nm.prefix_cons, Nm.prefix_cons]
theorem walk_run (hR : E.place E.rm E.rn = true) {m n : Int} (hP : E.place m n = true) {l : Bytes} (hl : Nm.err l = 0) : E.walk m n l = E.downed.run 40 ⟨([47] : List UInt8).isPrefixOf l, ([47] : List UInt8).isSuffixOf l, Nm.parts l⟩ (E.down m n).1 (E.down m n).2 0 := by
  unfold En.walk
  rw [hR, hP, if_pos (by rfl), if_pos hl]
  unfold Nm.rt Nm.sl Nm.ps
  rw [if_pos hl, decide_eq_true hl, Bool.true_and, Bool.true_and]
theorem walk_two (hm : Mk E) (hE : E.Short 9) (hf : E.follow = true) {p q : Bytes} (hp : p ≠ []) (hq : q ≠ []) (hq0 : ([47] : List UInt8).isPrefixOf q = false) (hpl : p.length ≤ 100) (hql : q.length ≤ 100) (hpz : (0 : UInt8) ∉ p) (hqz : (0 : UInt8) ∉ q)
    {A B : Re} (hA : E.walk E.rm E.rn (p ++ [47]) = A) (hB : E.walk E.rm E.rn (p ++ 47 :: q) = B) :
    ((A.why ≠ 0 ∨ A.f.has = false) → B.why ≠ 0) ∧
    (A.why = 0 → A.f.has = true → E.T.kindOf A.f.an = 1 ∧ ∀ K M : Re, E.walk A.f.am A.f.an q = K → E.walk A.f.am A.f.an (46 :: 47 :: q) = M → B.why = 46 ∨ (B.f = K.f ∧ B.why = K.why ∧ ((M.f = K.f ∧ M.why = K.why) ∨ M.why = 34))) := by
  have e1 : Nm.err (p ++ [47]) = 0 := err_short (by simp) (by simp only [List.length_append, List.length_cons, List.length_nil]; omega) (by
    intro h
    rcases List.mem_append.1 h with h | h
    · exact hpz h
    · simp at h)
  have e2 : Nm.err (p ++ 47 :: q) = 0 := err_short (by simp) (by simp only [List.length_append, List.length_cons]; omega) (by
    intro h
    rcases List.mem_append.1 h with h | h
    · exact hpz h
    · rcases List.mem_cons.1 h with h | h
      · simp at h
      · exact hqz h)
  have e3 : Nm.err q = 0 := err_short hq (by omega) hqz
  have e4 : Nm.err (46 :: 47 :: q) = 0 := err_short (by simp) (by simp only [List.length_cons]; omega) (by
    intro h
    rcases List.mem_cons.1 h with h | h
    · simp at h
    · rcases List.mem_cons.1 h with h | h
      · simp at h
      · exact hqz h)
  by_cases hR : E.place E.rm E.rn = true
  case neg =>
    have hR' : ¬ (E.place E.rm E.rn && E.place E.rm E.rn) = true := by simpa using hR
    unfold En.walk at hA hB
    rw [if_neg hR'] at hA hB
    subst hA hB
    exact ⟨fun _ => by simp, fun h => by simp at h⟩
  rw [walk_run hR hR e1] at hA
  rw [walk_run hR hR e2] at hB
  rw [rt_app hp, parts_end, Nm.suffix_app] at hA
  rw [rt_app hp, Nm.parts_app, Nm.suffix_cat p (b := 47 :: q) (by simp), show (47 :: q : Bytes) = [47] ++ q from rfl, Nm.suffix_cat [47] hq] at hB
  have hroot : Mt.rootIs E.es E.rm = true := by
    unfold En.place at hR
    simp at hR
    exact hR.2
  have hm' : Mk E.downed := ⟨hm.el, hm.up⟩
  have ho : Ok E.downed (E.down E.rm E.rn).1 (E.down E.rm E.rn).2 := Ok.down (E := E.downed) hm' (show Mt.rootIs E.downed.es E.rm = true from hroot) E.rn
  have hQ := parts_ne hq hq0
  have w1 := parts_wt p
  have w2 := parts_wt q
  obtain ⟨s1, s2⟩ := run_sim (E := E.downed) hm' (fun n => hE n) hf ho (([47] : List UInt8).isSuffixOf q) hQ 40 (([47] : List UInt8).isPrefixOf p) (Nm.parts p) _ _ 0 0 ho (by rw [wt_app]; omega)
  change E.downed.run 40 ⟨([47] : List UInt8).isPrefixOf p, true, Nm.parts p⟩ _ _ 0 = A at hA
  rw [hA, hB] at s1 s2
  refine ⟨s1, fun h1 h2 => ?_⟩
  obtain ⟨g1, g2, j, hj, a, b, c, d, g3⟩ := s2 h1 h2
  refine ⟨g2, fun K M hK hM => ?_⟩
  have hP : E.place A.f.am A.f.an = true := by
    unfold En.place
    rw [show Mt.rootIs E.es A.f.am = true from g1.2, Bool.and_true]
    have hk : E.T.kindOf A.f.an = 1 := g2
    unfold Tr.kindOf at hk
    cases hx : E.T.nd A.f.an with
    | none => rw [hx] at hk; simp at hk
    | some x => rfl
  have hD : E.down A.f.am A.f.an = (A.f.am, A.f.an) := g1.1
  rw [walk_run hR hP e3, hq0, hD] at hK
  rw [walk_run hR hP e4, hD, Nm.prefix_cons, show (46 :: 47 :: q : Bytes) = [46, 47] ++ q from rfl, Nm.suffix_cat [46, 47] hq, show ([46, 47] ++ q : Bytes) = [46] ++ 47 :: q from rfl, Nm.parts_app, show Nm.parts ([46] : Bytes) = [[46]] from rfl] at hM
  have hB2 : Al B (E.downed.run j ⟨false, ([47] : List UInt8).isSuffixOf q, Nm.parts q⟩ A.f.am A.f.an 0) := by
    rw [g3, run_fin]
    exact fin_al j (par_al _ _ _ _ _ _ _ _ _ _ _ _ _ (.inl hQ))
  have hM2 : Al M K ∨ M.why = 34 := by
    by_cases h3 : E.downed.refusal A.f.an = 0
    · left
      rw [← hM, ← hK, run_fin, run_fin]
      refine fin_al 40 ?_
      change Al (E.downed.par 0 _ ([46] :: Nm.parts q) A.f.am A.f.an [] A.f.am A.f.an 0) (E.downed.par 0 _ (Nm.parts q) A.f.am A.f.an [] A.f.am A.f.an 0)
      rw [par_cons, if_pos h3, if_pos (by rfl), show E.downed.dots [46] A.f.am A.f.an = (A.f.am, A.f.an) from if_pos (.inl rfl)]
      exact par_al _ _ _ _ _ _ _ _ _ _ _ _ _ (.inl hQ)
    · right
      have h4 : E.downed.refusal A.f.an = 34 := by
        unfold En.refusal at h3 ⊢
        rw [if_pos g2] at h3 ⊢
        by_cases h5 : E.downed.may A.f.an = true
        · rw [if_pos h5] at h3; exact absurd rfl h3
        · rw [if_neg h5]
      have h6 : E.downed.one (40 - 40) ⟨false, ([47] : List UInt8).isSuffixOf q, [[46]] ++ Nm.parts q⟩ A.f.am A.f.an 0 = ⟨none, Fd.none, E.downed.refusal A.f.an, A.f.am, A.f.an, 0 + 1⟩ := by
        change E.downed.par 0 _ ([46] :: Nm.parts q) A.f.am A.f.an [] A.f.am A.f.an 0 = _
        rw [par_cons, if_neg h3]
      rw [← hM]
      change (E.downed.run 40 ⟨false, ([47] : List UInt8).isSuffixOf q, [[46]] ++ Nm.parts q⟩ A.f.am A.f.an 0).why = 34
      rw [run_fin, h6, fin_none 40 rfl]
      exact h4
  rcases run_fuel (E := E.downed) j 40 ⟨false, ([47] : List UInt8).isSuffixOf q, Nm.parts q⟩ A.f.am A.f.an 0 hj (Nat.le_refl _) with h | h
  · exact .inl (hB2.2.2.1.trans h)
  · right
    have hBK : Al B K := by rw [← hK]; exact hB2.trans h
    refine ⟨hBK.2.1, hBK.2.2.1, ?_⟩
    rcases hM2 with h | h
    · exact .inl ⟨h.2.1, h.2.2.1⟩
    · exact .inr h
end
end Go.Proofs.YtlngeaacjbdmhaaGreat.Wl

namespace Go.Proofs.YtlngeaacjbdmhaaGreat.Bt
open Go.RowKit
def lonv (ty : TypeId) : Prop := own ty ∧ ty ≠ 46 ∧ ty ≠ 57 ∧ ty ≠ 50
theorem lonv_found : lonv 59 := ⟨own_found, by decide, by decide, by decide⟩
structure Bv (t m r R l0 l1 yb yc : Nat) (cu cg : Int) (B : Nat) (K : Int) (w W : World) (T : Tr) (M : Mt.T) (rs : List Mt.Rm) (L : List (Nat × Array Value × TypeId)) : Prop where
  s : Bx t m r R l0 l1 B K w W T T M M rs
  hb : W.heap[yb]? = some (.cells #[P0 t, P0 m, P0 r, P0 (R + 1)] 46)
  hc : W.heap[yc]? = some (.cells #[I cu, I cg] 57)
  l : ∀ c ∈ L, W.heap[c.1]? = some (.cells c.2.1 c.2.2) ∧ lonv c.2.2 ∧ w.heap.size ≤ c.1
  nd : (L.map (·.1)).Nodup
section
variable {t m r R l0 l1 yb yc B : Nat} {cu cg K : Int} {w W W' : World} {T T' : Tr} {M M' : Mt.T} {rs rs' : List Mt.Rm} {L : List (Nat × Array Value × TypeId)}
theorem Bx.rebaseV {V : World} {T2 : Tr} {M2 : Mt.T} (s : Bx t m r R l0 l1 B K V W T T2 M M2 rs) (h : Below w.heap.size w V) : Bx t m r R l0 l1 B K w W T T2 M M2 rs := ⟨s.q, s.d, s.f, s.l, s.a, s.b, s.rt, s.mf, h.trans (s.be.mono h.size), by have := s.le; have := h.size; omega⟩
theorem Bv.below (h : Bv t m r R l0 l1 yb yc cu cg B K w W T M rs L) (g : Below W.heap.size W W') : Bv t m r R l0 l1 yb yc cu cg B K w W' T M rs L := ⟨h.s.below g, (g.block _ (lt_of_heap h.hb)).trans h.hb, (g.block _ (lt_of_heap h.hc)).trans h.hc, fun c hc => ⟨(g.block _ (lt_of_heap (h.l c hc).1)).trans (h.l c hc).1, (h.l c hc).2⟩, h.nd⟩
theorem Bv.drew (h : Bv t m r R l0 l1 yb yc cu cg B K w W T M rs L) : Bv t m r R l0 l1 yb yc cu cg B K w W.drew T M rs L := h.below ⟨rfl, rfl, rfl, Nat.le_refl _, fun _ _ => rfl⟩
theorem Bv.step {B' : Nat} {K' : Int} (h : Bv t m r R l0 l1 yb yc cu cg B K w W T M rs L) (g : Bx t m r R l0 l1 B' K' w W' T' T' M' M' rs') (k : Kp W W') : Bv t m r R l0 l1 yb yc cu cg B' K' w W' T' M' rs' L := ⟨g, k _ _ _ _ h.hb own_both, k _ _ _ _ h.hc own_cred, fun c hc => ⟨k _ _ _ _ (h.l c hc).1 (h.l c hc).2.1.1, (h.l c hc).2⟩, h.nd⟩
theorem Bv.mono {B' : Nat} {K' : Int} (h : Bv t m r R l0 l1 yb yc cu cg B K w W T M rs L) (hb : B ≤ B') (hk : K ≤ K') : Bv t m r R l0 l1 yb yc cu cg B' K' w W T M rs L := ⟨h.s.mono hb hk, h.hb, h.hc, h.l, h.nd⟩
theorem Bv.cells (h : Bv t m r R l0 l1 yb yc cu cg B K w W T M rs L) : (W.cell? ⟨yb, 0, none⟩ = some (P0 t) ∧ W.cell? ⟨yb, 1, none⟩ = some (P0 m) ∧ W.cell? ⟨yb, 2, none⟩ = some (P0 r) ∧ W.cell? ⟨yb, 3, none⟩ = some (P0 (R + 1))) ∧ (W.cell? ⟨yc, 0, none⟩ = some (I cu) ∧ W.cell? ⟨yc, 1, none⟩ = some (I cg)) := by
  refine ⟨⟨?_, ?_, ?_, ?_⟩, ?_, ?_⟩
  · rw [cell_of h.hb]; rfl
  · rw [cell_of h.hb]; rfl
  · rw [cell_of h.hb]; rfl
  · rw [cell_of h.hb]; rfl
  · rw [cell_of h.hc]; rfl
  · rw [cell_of h.hc]; rfl
theorem Bv.more {cs : Array Value} {ty : TypeId} (h : Bv t m r R l0 l1 yb yc cu cg B K w W T M rs L) (ht : lonv ty) : Bv t m r R l0 l1 yb yc cu cg B K w (W.alloc (.cells cs ty)) T M rs ((W.heap.size, cs, ty) :: L) := by
  have h1 := h.below (W' := W.alloc (.cells cs ty)) ((Below.refl _ W).alloc (Nat.le_refl _) _)
  refine ⟨h1.s, h1.hb, h1.hc, fun c hc => ?_, ?_⟩
  · rcases List.mem_cons.1 hc with rfl | hc
    · exact ⟨heap_alloc_new W _, ht, h.s.be.size⟩
    · exact h1.l c hc
  · rw [List.map_cons, List.nodup_cons]
    refine ⟨fun hm => ?_, h.nd⟩
    obtain ⟨c, hc, e⟩ := List.mem_map.1 hm
    have := lt_of_heap (h.l c hc).1
    simp only at e
    omega
theorem bv_new {cs : Array Value} {ty : TypeId} (ht : lonv ty) (h : Bv t m r R l0 l1 yb yc cu cg B K w W T M rs L) (g : Below (W.alloc (.cells cs ty)).heap.size (W.alloc (.cells cs ty)) W') : Bv t m r R l0 l1 yb yc cu cg B K w W' T M rs ((W.heap.size, cs, ty) :: L) := (h.more ht).below g
theorem bv_new_d {cs : Array Value} {ty : TypeId} (ht : lonv ty) (h : Bv t m r R l0 l1 yb yc cu cg B K w W T M rs L) (g : Below (W.drew.alloc (.cells cs ty)).heap.size (W.drew.alloc (.cells cs ty)) W') : Bv t m r R l0 l1 yb yc cu cg B K w W' T M rs ((W.heap.size, cs, ty) :: L) := by
  have := bv_new ht h.drew g
  exact this
theorem bv_alloc {cs : Array Value} {ty : TypeId} (ht : lonv ty) (h : Bv t m r R l0 l1 yb yc cu cg B K w W T M rs L) : ∃ A0, W.alloc (.cells cs ty) = A0 ∧ Bv t m r R l0 l1 yb yc cu cg B K w A0 T M rs ((W.heap.size, cs, ty) :: L) := ⟨_, rfl, h.more ht⟩
theorem Bv.turn {q : Nat} {cs cs' : Array Value} {ty : TypeId} (h : Bv t m r R l0 l1 yb yc cu cg B K w W T M rs ((q, cs, ty) :: L)) (F : Fr [q] W W') (hq : W'.heap[q]? = some (.cells cs' ty)) : Bv t m r R l0 l1 yb yc cu cg B K w W' T M rs ((q, cs', ty) :: L) := by
  obtain ⟨h1, h2, h3⟩ := h.l _ (List.mem_cons_self ..)
  simp only at h1 h2 h3
  have hne : ∀ (b : Nat) (c0 : Array Value) (t0 : TypeId), W.heap[b]? = some (.cells c0 t0) → t0 ≠ ty → W'.heap[b]? = some (.cells c0 t0) := fun b c0 t0 e ht => (F.blk b (lt_of_heap e) (by
    simp
    rintro rfl
    rw [h1] at e
    cases e
    exact ht rfl)).trans e
  have hnd := h.nd
  rw [List.map_cons, List.nodup_cons] at hnd
  refine ⟨h.s.turn h1 h2.1 F h3, hne _ _ _ h.hb (Ne.symm h2.2.1), hne _ _ _ h.hc (Ne.symm h2.2.2.1), fun c hc => ?_, ?_⟩
  · rcases List.mem_cons.1 hc with rfl | hc
    · exact ⟨hq, h2, h3⟩
    · obtain ⟨g1, g2, g3⟩ := h.l c (List.mem_cons_of_mem _ hc)
      refine ⟨(F.blk c.1 (lt_of_heap g1) ?_).trans g1, g2, g3⟩
      simp
      rintro e
      exact hnd.1 (List.mem_map.2 ⟨c, hc, e⟩)
  · rw [List.map_cons, List.nodup_cons]
    exact hnd
theorem Bv.store7 {q : Nat} {z0 z1 z2 z3 z4 z5 z6 : Value} {ty : TypeId} (h : Bv t m r R l0 l1 yb yc cu cg B K w W T M rs ((q, #[z0, z1, z2, z3, z4, z5, z6], ty) :: L)) (v0 v1 v2 v3 v4 v5 v6 : Value) :
    ∃ X1 X2 X3 X4 X5 X6 X7 : World, (W.setCell ⟨q, 0, none⟩ v0 = X1 ∧ X1.setCell ⟨q, 1, none⟩ v1 = X2 ∧ X2.setCell ⟨q, 2, none⟩ v2 = X3 ∧ X3.setCell ⟨q, 3, none⟩ v3 = X4 ∧ X4.setCell ⟨q, 4, none⟩ v4 = X5 ∧ X5.setCell ⟨q, 5, none⟩ v5 = X6 ∧ X6.setCell ⟨q, 6, none⟩ v6 = X7) ∧ (W.cell? ⟨q, 0, none⟩ = some z0 ∧ X1.cell? ⟨q, 1, none⟩ = some z1 ∧ X2.cell? ⟨q, 2, none⟩ = some z2 ∧ X3.cell? ⟨q, 3, none⟩ = some z3 ∧ X4.cell? ⟨q, 4, none⟩ = some z4 ∧ X5.cell? ⟨q, 5, none⟩ = some z5 ∧ X6.cell? ⟨q, 6, none⟩ = some z6) ∧ (W.frozen? ⟨q, 0, none⟩ = false ∧ X1.frozen? ⟨q, 1, none⟩ = false ∧ X2.frozen? ⟨q, 2, none⟩ = false ∧ X3.frozen? ⟨q, 3, none⟩ = false ∧ X4.frozen? ⟨q, 4, none⟩ = false ∧ X5.frozen? ⟨q, 5, none⟩ = false ∧ X6.frozen? ⟨q, 6, none⟩ = false) ∧ Hid (Bv t m r R l0 l1 yb yc cu cg B K w X7 T M rs ((q, #[v0, v1, v2, v3, v4, v5, v6], ty) :: L)) := by
  have hq := (h.l _ (List.mem_cons_self ..)).1
  simp only at hq
  obtain ⟨X1, e1, g1⟩ : ∃ X, W.setCell ⟨q, 0, none⟩ v0 = X ∧ X.heap[q]? = some (.cells #[v0, z1, z2, z3, z4, z5, z6] ty) := ⟨_, rfl, by rw [heap_set hq]; rfl⟩
  obtain ⟨X2, e2, g2⟩ : ∃ X, X1.setCell ⟨q, 1, none⟩ v1 = X ∧ X.heap[q]? = some (.cells #[v0, v1, z2, z3, z4, z5, z6] ty) := ⟨_, rfl, by rw [heap_set g1]; rfl⟩
  obtain ⟨X3, e3, g3⟩ : ∃ X, X2.setCell ⟨q, 2, none⟩ v2 = X ∧ X.heap[q]? = some (.cells #[v0, v1, v2, z3, z4, z5, z6] ty) := ⟨_, rfl, by rw [heap_set g2]; rfl⟩
  obtain ⟨X4, e4, g4⟩ : ∃ X, X3.setCell ⟨q, 3, none⟩ v3 = X ∧ X.heap[q]? = some (.cells #[v0, v1, v2, v3, z4, z5, z6] ty) := ⟨_, rfl, by rw [heap_set g3]; rfl⟩
  obtain ⟨X5, e5, g5⟩ : ∃ X, X4.setCell ⟨q, 4, none⟩ v4 = X ∧ X.heap[q]? = some (.cells #[v0, v1, v2, v3, v4, z5, z6] ty) := ⟨_, rfl, by rw [heap_set g4]; rfl⟩
  obtain ⟨X6, e6, g6⟩ : ∃ X, X5.setCell ⟨q, 5, none⟩ v5 = X ∧ X.heap[q]? = some (.cells #[v0, v1, v2, v3, v4, v5, z6] ty) := ⟨_, rfl, by rw [heap_set g5]; rfl⟩
  obtain ⟨X7, e7, g7⟩ : ∃ X, X6.setCell ⟨q, 6, none⟩ v6 = X ∧ X.heap[q]? = some (.cells #[v0, v1, v2, v3, v4, v5, v6] ty) := ⟨_, rfl, by rw [heap_set g6]; rfl⟩
  have F : Fr [q] W X7 := by
    rw [← e7, ← e6, ← e5, ← e4, ← e3, ← e2, ← e1]
    exact (((((((Fr.refl _ W).set (a := ⟨q, 0, none⟩) (by simp) _).set (a := ⟨q, 1, none⟩) (by simp) _).set (a := ⟨q, 2, none⟩) (by simp) _).set (a := ⟨q, 3, none⟩) (by simp) _).set (a := ⟨q, 4, none⟩) (by simp) _).set (a := ⟨q, 5, none⟩) (by simp) _).set (a := ⟨q, 6, none⟩) (by simp) _
  exact ⟨X1, X2, X3, X4, X5, X6, X7, ⟨e1, e2, e3, e4, e5, e6, e7⟩, ⟨by rw [cell_of hq]; rfl, by rw [cell_of g1]; rfl, by rw [cell_of g2]; rfl, by rw [cell_of g3]; rfl, by rw [cell_of g4]; rfl, by rw [cell_of g5]; rfl, by rw [cell_of g6]; rfl⟩, ⟨frozen_of hq 0, frozen_of g1 1, frozen_of g2 2, frozen_of g3 3, frozen_of g4 4, frozen_of g5 5, frozen_of g6 6⟩, hide (h.turn F g7)⟩
/-! The calls. -/
theorem walk_V (h : Bv t m r R l0 l1 yb yc cu cg B K w W T M rs L) (hB : B ≤ 860) (hi : Inv T M) (cu cg : Int) (gm gn : Int) (hf : (kl gn).wf = true) (p : ByteArray) (fo : Bool) (Re : Wl.Re) (hR : (Eb T M cu cg fo).walk gm gn p.data.toList = Re) :
    Calls Tryz.prog 27 #[P0 t, P0 m, .agg #[I 0, I 1], .agg #[I gm, I gn], .agg #[I cu, I cg], .string p, .bool fo] W fun e w' => e = .returned (.tuple #[.agg #[I Re.f.dm, I Re.f.dn, .string (Wl.bs Re.f.last), I Re.f.am, I Re.f.an, .bool Re.f.has, .bool Re.f.slash], I Re.why]) ∧ Below W.heap.size W w' :=
  Wl.Walk_any (h.s.wd hB hi cu cg fo) gm gn (show (kl (1 : Int)).wf = true by decide) hf p.data.toList Re hR
end
end Go.Proofs.YtlngeaacjbdmhaaGreat.Bt
