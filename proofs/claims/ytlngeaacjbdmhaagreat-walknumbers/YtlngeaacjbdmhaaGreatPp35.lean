/-
 What stays so while a tree is changed by small changes: short texts,mounts of small numbers;walks in such a tree.
-/
import Derived.Test.YtlngeaacjbdmhaaGreatPp34
import Derived.Test.YtlngeaacjbdmhaaGreatPp28
set_option maxRecDepth 100000
namespace Go.Proofs.YtlngeaacjbdmhaaGreat.Bt
open Go.RowKit
def Sub (T T':Tr):Prop:=∀ n x',T'.nd n=some x'→∃ x,T.nd n=some x∧x'.text=x.text
section
variable {T T' T2:Tr} {M M':Mt.T} {k:Nat}
theorem Sub.refl (T:Tr):Sub T T:=fun _ x h=>⟨x,h,rfl⟩
theorem Sub.trans (h:Sub T T') (g:Sub T' T2):Sub T T2:=fun n x hx=>by
 obtain ⟨y,h1,h2⟩:=g n x hx
 obtain ⟨z,h3,h4⟩:=h n y h1
 exact ⟨z,h3,h2.trans h4⟩
theorem Sub.set {n:Int} {x y:Nd} (hx:T.nd n=some x) (h:y.text=x.text):Sub T (T.set n (some y)):=fun j z hz=>by
 by_cases e:j=n
 ·rw [e,Tr.set_same] at hz
  cases hz
  exact ⟨x,by rw [e];exact hx,h⟩
 ·rw [Tr.set_other _ _ e] at hz
  exact ⟨z,hz,rfl⟩
theorem Sub.none (n:Int):Sub T (T.set n none):=fun j z hz=>by
 by_cases e:j=n
 ·rw [e,Tr.set_same] at hz
  cases hz
 ·rw [Tr.set_other _ _ e] at hz
  exact ⟨z,hz,rfl⟩
theorem Sub.give (dir:Int) (s:ByteArray) (n:Int):Sub T (T.give dir s n):=by
 unfold Tr.give
 split
 ·rename_i d x hd hx
  intro j z hz
  by_cases e:j=n
  ·rw [e,Tr.set_same] at hz
   cases hz
   exact ⟨x,by rw [e];exact hx,rfl⟩
  ·rw [Tr.set_other _ _ e] at hz
   exact Sub.set (y:={ d with ins:=putE d.ins s n }) hd rfl j z hz
 ·exact .refl _
theorem Sub.leave (n:Int):Sub T (T.leave n):=by
 unfold Tr.leave
 split
 ·split
  ·exact .refl _
  ·exact fun j z hz=>Sub.none n j z hz
 ·exact .refl _
theorem Sub.less (n:Int):Sub T (T.less n):=by
 unfold Tr.less
 split
 ·rename_i x hx
  exact .set hx rfl
 ·exact .refl _
theorem Sub.take (dir:Int) (s:ByteArray):Sub T (T.take dir s):=by
 unfold Tr.take
 split
 ·rename_i d hd
  split
  ·exact ((Sub.set (y:={ d with ins:=delE d.ins s }) hd rfl).trans (.less _)).trans (.leave _)
  ·exact .refl _
 ·exact .refl _
theorem Sub.join (dir:Int) (s:ByteArray) (n:Int):Sub T (T.join dir s n):=by
 unfold Tr.join
 split
 ·exact .give _ _ _
 ·exact .refl _
theorem Sub.part (dir:Int) (s:ByteArray):Sub T (T.part dir s):=by
 unfold Tr.part
 split
 ·exact .take _ _
 ·exact .refl _
theorem Sub.move (l:List Int) (dir:Int) (s:ByteArray) (tq:Int) (s2:ByteArray):Sub T (T.move l dir s tq s2):=by
 unfold Tr.move
 split
 ·split
  ·split
   ·split
    ·exact .refl _
    ·exact ((Sub.take _ _).trans (.give _ _ _)).trans (.take _ _)
   ·exact (Sub.give _ _ _).trans (.take _ _)
  ·exact .refl _
 ·exact .refl _
theorem Sub.hold (n:Int):Sub T (T.hold n):=by
 unfold Tr.hold
 split
 ·rename_i x hx
  exact .set hx rfl
 ·exact .refl _
theorem Sub.setMode (n m:Int):Sub T (T.setMode n m):=by
 unfold Tr.setMode
 split
 ·rename_i x hx
  exact .set hx rfl
 ·exact .refl _
theorem Sub.setOwner (n u g:Int):Sub T (T.setOwner n u g):=by
 unfold Tr.setOwner
 split
 ·rename_i x hx
  exact .set hx rfl
 ·exact .refl _
structure Inv (T:Tr) (M:Mt.T):Prop where
 t:∀ n x,T.nd n=some x→x.text.size≤9
 m:∀ p ∈ M.es,(1≤p.top∧p.top≤7)∧(1≤p.an∧p.an≤7)
 r:M.rt=1
theorem Inv.sub (h:Inv T M) (g:Sub T T'):Inv T' M:=⟨fun n x hx=>by
 obtain ⟨y,h1,h2⟩:=g n x hx
 rw [h2]
 exact h.t n y h1,h.m,h.r⟩
theorem Inv.new:Inv (Tr.new 40 20) ⟨1,0,[]⟩:=⟨fun n x hx=>by
 simp only [Tr.new] at hx
 split at hx
 ·cases hx
  decide
 ·exact absurd hx (by simp),fun p hp=>by simp at hp,rfl⟩
theorem texts9 {s:ByteArray} (h:s ∈ texts):s.size≤9:=by
 simp only [texts,List.mem_cons,List.not_mem_nil,or_false] at h
 rcases h with rfl | rfl | rfl | rfl | rfl | rfl | rfl | rfl | rfl | rfl <;> decide
theorem Inv.make (h:Inv T M) (dir:Int) (s:ByteArray) (kd mo ui gi:Int) (text:ByteArray) (ht:text.size≤9):Inv (T.make dir s kd mo ui gi text) M:=by
 unfold Tr.make
 split
 ·refine Inv.sub ⟨fun n x hx=>?_,h.m,h.r⟩ (.give _ _ _)
  simp only [Tr.add] at hx
  split at hx
  ·cases hx;exact ht
  ·exact h.t n x hx
 ·exact h
theorem Inv.unbind (h:Inv T M) (n:Int):Inv T (M.unbind n):=by
 unfold Mt.T.unbind
 split
 ·exact ⟨h.t,fun p hp=>h.m p (List.mem_filter.1 hp).1,h.r⟩
 ·exact h
theorem Inv.bind (h:Inv T M) {x:Ac} (hx:Tm x):Inv (bindT T M x) (bindM T M x):=by
 have h1:Sub T (bindT T M x):=by
  unfold bindT
  split
  ·exact (Sub.hold _).trans (.hold _)
  ·exact .refl _
 refine Inv.sub (T:=T) ?_ h1
 unfold bindM
 split
 ·unfold Mt.T.bind
  split
  ·refine ⟨h.t,fun p hp=>?_,h.r⟩
   rcases List.mem_append.1 hp with hp | hp
   ·exact h.m p hp
   ·simp only [List.mem_singleton] at hp
    subst hp
    exact ⟨hx.tq,hx.an⟩
  ·exact h
 ·exact h
theorem Inv.step (h:Inv T M) {x:Ac} (hx:Tm x) (hs:Stp x T T' M M'):Inv T' M':=by
 rcases hs with ⟨k,rfl,rfl⟩ | ⟨-,rfl,rfl⟩ | ⟨-,rfl,rfl⟩ | ⟨-,⟨l,-,rfl⟩,rfl⟩ | ⟨-,rfl,rfl⟩ | ⟨-,rfl,rfl⟩ | ⟨-,rfl,rfl⟩ | ⟨rfl,rfl⟩
 ·refine h.make _ _ _ _ _ _ _ ?_
  rcases hx.ad with ⟨k2,-⟩ | ⟨-,-,-,⟨-,e⟩ | ⟨-,e⟩⟩
  ·exact absurd k k2
  ·rw [e];decide
  ·exact texts9 e
 ·exact h.sub (.join _ _ _)
 ·exact h.sub (.part _ _)
 ·exact h.sub (.move _ _ _ _ _)
 ·exact h.sub (.setMode _ _)
 ·exact h.bind hx
 ·exact h.unbind _
 ·exact h.sub (.setOwner _ _ _)
end
def Eb (T:Tr) (M:Mt.T) (cu cg:Int) (fo:Bool):Wl.En:=⟨T,M.rt,M.md,M.es,cu,cg,0,1,fo⟩
section
variable {t m r R l0 l1 B:Nat} {K:Int} {w W W':World} {T T2:Tr} {M M2:Mt.T} {rs:List Mt.Rm}
theorem Bx.wd (s:Bx t m r R l0 l1 B K w W T T2 M M2 rs) (hB:B≤860) (hi:Inv T M) (cu cg:Int) (fo:Bool):Wl.Wd l0 20 m W t m (Eb T M cu cg fo) :=
 ⟨s.q.p,s.q.f.k.mono (by omega),s.a.ls,s.a.wf.eld,by have:=s.a.wf.le;simp only [Eb];omega,fun p hp=>by
  obtain ⟨h1,h2⟩:=hi.m p hp
  exact ⟨wf_of (by omega),wf_of (by omega)⟩⟩
theorem Inv.short (hi:Inv T M) (cu cg:Int) (fo:Bool):(Eb T M cu cg fo).Short 9:=fun n=>by
 simp only [Wl.En.text,Eb,Tr.textOf]
 cases hx:T.nd n with
 | none=>simp
 | some x=>exact hi.t n x hx
end
structure Bz (t m r R l0 l1 yb yc:Nat) (cu cg:Int) (B:Nat) (K:Int) (w W:World) (T:Tr) (M:Mt.T) (rs:List Mt.Rm):Prop where
 s:Bx t m r R l0 l1 B K w W T T M M rs
 hb:W.heap[yb]?=some (.cells #[P0 t,P0 m,P0 r,P0 (R + 1)] 46)
 hc:W.heap[yc]?=some (.cells #[I cu,I cg] 57)
section
variable {t m r R l0 l1 yb yc B B':Nat} {cu cg K K':Int} {w W W':World} {T T':Tr} {M M':Mt.T} {rs rs':List Mt.Rm}
theorem Bz.below (h:Bz t m r R l0 l1 yb yc cu cg B K w W T M rs) (g:Below W.heap.size W W'):Bz t m r R l0 l1 yb yc cu cg B K w W' T M rs:=⟨h.s.below g,(g.block _ (lt_of_heap h.hb)).trans h.hb,(g.block _ (lt_of_heap h.hc)).trans h.hc⟩
theorem Bz.drew (h:Bz t m r R l0 l1 yb yc cu cg B K w W T M rs):Bz t m r R l0 l1 yb yc cu cg B K w W.drew T M rs:=h.below ⟨rfl,rfl,rfl,Nat.le_refl _,fun _ _=>rfl⟩
theorem Bz.step (h:Bz t m r R l0 l1 yb yc cu cg B K w W T M rs) (g:Bx t m r R l0 l1 B' K' w W' T' T' M' M' rs') (k:Kp W W'):Bz t m r R l0 l1 yb yc cu cg B' K' w W' T' M' rs':=⟨g,k _ _ _ _ h.hb own_both,k _ _ _ _ h.hc own_cred⟩
theorem Bz.cb (h:Bz t m r R l0 l1 yb yc cu cg B K w W T M rs):W.cell? ⟨yb,0,none⟩=some (P0 t)∧W.cell? ⟨yb,1,none⟩=some (P0 m)∧W.cell? ⟨yb,2,none⟩=some (P0 r)∧W.cell? ⟨yb,3,none⟩=some (P0 (R + 1)):=by
 refine ⟨?_,?_,?_,?_⟩ <;> (rw [cell_of h.hb];rfl)
theorem Bz.cc (h:Bz t m r R l0 l1 yb yc cu cg B K w W T M rs):W.cell? ⟨yc,0,none⟩=some (I cu)∧W.cell? ⟨yc,1,none⟩=some (I cg):=by
 refine ⟨?_,?_⟩ <;> (rw [cell_of h.hc];rfl)
end
end Go.Proofs.YtlngeaacjbdmhaaGreat.Bt
namespace Go.Proofs.YtlngeaacjbdmhaaGreat.Wl
theorem down_end {md:Int} {es:Mt.Ents} (h:Mt.Eld md es):∀ (k:Nat) (m n:Int),Mt.fuel md m≤k→Mt.any es (Mt.isAt (Mt.down md es m n).1 (Mt.down md es m n).2)=false:=by
 intro k
 induction k with
 | zero =>
  intro m n hk
  cases ha:Mt.any es (Mt.isAt m n) with
  | false=>rw [Mt.down_stop ha];exact ha
  | true =>
   obtain ⟨h1,h2⟩:=h.next ha
   simp only [Mt.fuel] at hk
   omega
 | succ k ih =>
  intro m n hk
  cases ha:Mt.any es (Mt.isAt m n) with
  | false=>rw [Mt.down_stop ha];exact ha
  | true =>
   obtain ⟨h1,h2⟩:=h.next ha
   rw [Mt.down_step h ha]
   exact ih _ _ (by simp only [Mt.fuel] at *;omega)
theorem down_root {md:Int} {es:Mt.Ents} (h:Mt.Eld md es):∀ (k:Nat) (m n:Int),Mt.fuel md m≤k→Mt.rootIs es m=true→Mt.rootIs es (Mt.down md es m n).1=true:=by
 intro k
 induction k with
 | zero =>
  intro m n hk hr
  cases ha:Mt.any es (Mt.isAt m n) with
  | false=>rw [Mt.down_stop ha];exact hr
  | true =>
   obtain ⟨h1,h2⟩:=h.next ha
   simp only [Mt.fuel] at hk
   omega
 | succ k ih =>
  intro m n hk hr
  cases ha:Mt.any es (Mt.isAt m n) with
  | false=>rw [Mt.down_stop ha];exact hr
  | true =>
   obtain ⟨h1,h2⟩:=h.next ha
   rw [Mt.down_step h ha]
   refine ih _ _ (by simp only [Mt.fuel] at *;omega) ?_
   unfold Mt.rootIs
   split
   ·rfl
   ·exact Mt.any_iff.2 ⟨_,(Mt.fst_mem ha).1,by simp [Mt.isN]⟩
structure Mk (E:En):Prop where
 el:Mt.Eld E.md E.es
 up:∀ p ∈ E.es,Mt.rootIs E.es p.am=true
def Ok (E:En) (am an:Int):Prop:=E.down am an=(am,an)∧Mt.rootIs E.es am=true
section
variable {E:En}
theorem Ok.down (h:Mk E) {m:Int} (hr:Mt.rootIs E.es m=true) (n:Int):Ok E (E.down m n).1 (E.down m n).2:=⟨Mt.down_stop (down_end h.el _ m n (Nat.le_refl _)),down_root h.el _ m n (Nat.le_refl _) hr⟩
theorem upF_root (h:Mk E):∀ (k:Nat) (m n:Int),Mt.rootIs E.es m=true→Mt.rootIs E.es (upF E.es k m n).1=true:=by
 intro k
 induction k with
 | zero=>intro m n hr;exact hr
 | succ k ih =>
  intro m n hr
  unfold upF
  split
  ·rename_i hu
   refine ih _ _ ?_
   rw [Mt.upM,if_pos hu]
   have h1:Mt.any E.es (Mt.isN m)=true:=by
    unfold Mt.upIs at hu
    simp at hu
    exact hu.1
   exact h.up _ (Mt.fst_mem h1).1
  ·exact hr
theorem Ok.dots (h:Mk E) {am an:Int} (ho:Ok E am an) (p:Bytes):Ok E (E.dots p am an).1 (E.dots p am an).2:=by
 unfold En.dots
 split
 ·exact ho
 ·exact Ok.down h (upF_root h _ _ _ ho.2) _
theorem Ok.find (h:Mk E) {am an:Int} (ho:Ok E am an) {p:Bytes} {t:Int × Int} (hf:E.find p am an=some t):Ok E t.1 t.2:=by
 unfold En.find at hf
 obtain ⟨n,-,rfl⟩:=Option.map_eq_some_iff.1 hf
 exact Ok.down h ho.2 n
def wt (ps:List Bytes):Nat:=(ps.map fun p=>p.length + 1).sum
theorem wt_app (a b:List Bytes):wt (a ++ b)=wt a + wt b:=by simp [wt]
theorem join_len:∀ ps:List Bytes,(Nm.joinS ps).length≤wt ps
 | []=>by simp [Nm.joinS,wt]
 | [a]=>by simp [Nm.joinS,wt]
 | a :: b :: l=>by
  have:=join_len (b :: l)
  simp only [Nm.joinS,List.length_append,List.length_cons,wt,List.map_cons,List.sum_cons] at this ⊢
  omega
theorem par_cons (E:En) (fol:Nat) (slash:Bool) (p:Bytes) (rest:List Bytes) (dm dn:Int) (last:Bytes) (am an:Int) (s:Nat):E.par fol slash (p :: rest) dm dn last am an s =
  (if E.refusal an=0 then
   if isDots p=true then E.par fol slash rest dm dn [] (E.dots p am an).1 (E.dots p am an).2 (s + 1)
   else match E.find p am an with
    | none=>⟨none,missF p rest slash am an,missE rest,am,an,s + 1⟩
    | some t=>if E.goes t.2 rest slash=true then
      (if onE fol (E.text t.2) slash rest=0 then ⟨some (onP (E.text t.2) slash rest),Fd.none,0,am,an,s + 1⟩ else ⟨none,Fd.none,onE fol (E.text t.2) slash rest,am,an,s + 1⟩)
     else E.par fol slash rest am an p t.1 t.2 (s + 1)
  else ⟨none,Fd.none,E.refusal an,am,an,s + 1⟩):=by rw [En.par];cases E.find p am an <;> rfl
def Al (a b:Re):Prop:=a.next=b.next∧a.f=b.f∧a.why=b.why∧a.am=b.am∧a.an=b.an
theorem Al.refl (a:Re):Al a a:=⟨rfl,rfl,rfl,rfl,rfl⟩
end
open Go.RowKit
def En.on (E:En) (fol:Nat) (slash:Bool) (ps:List Bytes) (dm dn:Int) (last:Bytes) (am an:Int) (s:Nat):Re :=
 match (E.par fol slash ps dm dn last am an s).next with
 | none=>E.par fol slash ps dm dn last am an s
 | some q=>E.run (40 - (fol + 1)) q (E.par fol slash ps dm dn last am an s).am (E.par fol slash ps dm dn last am an s).an (E.par fol slash ps dm dn last am an s).steps
section
variable {E:En} {fol:Nat} {slash:Bool} {dm dn dm' dn':Int} {last:Bytes} {am an:Int} {s:Nat}
theorem run_on (hf:fol≤40) (p:Pa) (am an:Int) (s:Nat):E.run (40 - fol) p am an s=E.on fol p.slash p.parts (E.beg p am an).1 (E.beg p am an).2 [] (E.beg p am an).1 (E.beg p am an).2 s:=by
 cases h:(E.one fol p am an s).next with
 | none =>
  rw [E.run_done hf h]
  unfold En.on
  unfold En.one at h
  rw [h]
  rfl
 | some q =>
  rw [(E.run_next hf h).2]
  unfold En.on
  unfold En.one at h
  rw [h]
  rfl
theorem par_dir (ps:List Bytes):∀ (dm dn dm' dn' am an:Int) (s:Nat),E.par fol slash ps dm dn [] am an s=E.par fol slash ps dm' dn' [] am an s:=by
 induction ps with
 | nil=>intros;simp [En.par,En.endF]
 | cons p rest ih =>
  intro dm dn dm' dn' am an s
  rw [par_cons,par_cons]
  by_cases h1:E.refusal an=0
  ·rw [if_pos h1,if_pos h1]
   by_cases h2:isDots p=true
   ·rw [if_pos h2,if_pos h2]
    exact ih _ _ _ _ _ _ _
   ·rw [if_neg h2,if_neg h2]
  ·rw [if_neg h1,if_neg h1]
theorem on_dir (ps:List Bytes) (dm dn dm' dn' am an:Int) (s:Nat):E.on fol slash ps dm dn [] am an s=E.on fol slash ps dm' dn' [] am an s:=by
 unfold En.on
 rw [par_dir ps dm dn dm' dn']
theorem on_nil:E.on fol slash [] dm dn last am an s=⟨none,E.endF dm dn last am an slash,E.endE an slash,am,an,s⟩:=rfl
theorem on_of_none {ps:List Bytes} {x:Re} (h:E.par fol slash ps dm dn last am an s=x) (hx:x.next=none):E.on fol slash ps dm dn last am an s=x:=by
 unfold En.on
 rw [h,hx]
theorem on_of_eq {ps ps':List Bytes} {dm' dn' am' an':Int} {last':Bytes} {s':Nat} (h:E.par fol slash ps dm dn last am an s=E.par fol slash ps' dm' dn' last' am' an' s'):E.on fol slash ps dm dn last am an s=E.on fol slash ps' dm' dn' last' am' an' s':=by
 unfold En.on
 rw [h]
variable {p:Bytes} {rest:List Bytes}
theorem on_no (h:E.refusal an≠0):E.on fol slash (p :: rest) dm dn last am an s=⟨none,Fd.none,E.refusal an,am,an,s + 1⟩ :=
 on_of_none (by rw [par_cons,if_neg h]) rfl
theorem on_dots (h:E.refusal an=0) (hp:isDots p=true):E.on fol slash (p :: rest) dm dn last am an s=E.on fol slash rest dm dn [] (E.dots p am an).1 (E.dots p am an).2 (s + 1) :=
 on_of_eq (by rw [par_cons,if_pos h,if_pos hp])
theorem on_miss (h:E.refusal an=0) (hp:¬ isDots p=true) (hf:E.find p am an=none):E.on fol slash (p :: rest) dm dn last am an s=⟨none,missF p rest slash am an,missE rest,am,an,s + 1⟩ :=
 on_of_none (by rw [par_cons,if_pos h,if_neg hp,hf]) rfl
theorem on_plain (h:E.refusal an=0) (hp:¬ isDots p=true) {t:Int × Int} (hf:E.find p am an=some t) (hg:¬ E.goes t.2 rest slash=true):E.on fol slash (p :: rest) dm dn last am an s=E.on fol slash rest am an p t.1 t.2 (s + 1) :=
 on_of_eq (by rw [par_cons,if_pos h,if_neg hp,hf];simp only;rw [if_neg hg])
theorem on_bad (h:E.refusal an=0) (hp:¬ isDots p=true) {t:Int × Int} (hf:E.find p am an=some t) (hg:E.goes t.2 rest slash=true) (hx:onE fol (E.text t.2) slash rest≠0):E.on fol slash (p :: rest) dm dn last am an s=⟨none,Fd.none,onE fol (E.text t.2) slash rest,am,an,s + 1⟩ :=
 on_of_none (by rw [par_cons,if_pos h,if_neg hp,hf];simp only;rw [if_pos hg,if_neg hx]) rfl
theorem onE_fol {text:Bytes} (h:onE fol text slash rest=0):fol≠40:=by
 intro h1
 rw [onE,if_pos h1] at h
 omega
theorem on_next (h0:fol≤40) (h:E.refusal an=0) (hp:¬ isDots p=true) {t:Int × Int} (hf:E.find p am an=some t) (hg:E.goes t.2 rest slash=true) (hx:onE fol (E.text t.2) slash rest=0) (dm' dn':Int):E.on fol slash (p :: rest) dm dn last am an s=E.on (fol + 1) (onP (E.text t.2) slash rest).slash (onP (E.text t.2) slash rest).parts dm' dn' [] (E.beg (onP (E.text t.2) slash rest) am an).1 (E.beg (onP (E.text t.2) slash rest) am an).2 (s + 1):=by
 have e:E.par fol slash (p :: rest) dm dn last am an s=⟨some (onP (E.text t.2) slash rest),Fd.none,0,am,an,s + 1⟩:=by
  rw [par_cons,if_pos h,if_neg hp,hf];simp only;rw [if_pos hg,if_pos hx]
 have h1:=onE_fol hx
 have e2:E.on fol slash (p :: rest) dm dn last am an s=E.run (40 - (fol + 1)) (onP (E.text t.2) slash rest) am an (s + 1):=by
  unfold En.on
  rw [e]
 rw [e2,run_on (by omega)]
 exact on_dir _ _ _ _ _ _ _ _
end
theorem Ro.tail {W:World} {b:Nat} {a:Option Addr} {p:Bytes} {rest:List Bytes} (h:Ro W b a (p :: rest)) (cap:Nat):∃ pb off pp,a=some ⟨pb,off,none⟩∧pb≠b∧pb < W.heap.size∧W.cell? ⟨pb,off,none⟩=some (Nm.S p)∧(if cap=1 then some (⟨pb,off,none⟩:Addr) else some ⟨pb,off + 1,none⟩)=some ⟨pb,pp,none⟩∧(rest.length + 1≤cap→Ro W b (some ⟨pb,pp,none⟩) rest):=by
 obtain ⟨pb,off,h1,h2,h3⟩:=h.1 0 p rfl
 have hb:pb≠b:=h.2 _ h1
 by_cases hc:cap=1
 ·refine ⟨pb,off,off,h1,hb,h2,h3,by rw [if_pos hc],fun hl=>⟨fun k q hk=>?_,fun x hx=>by injection hx with hx;subst hx;exact hb⟩⟩
  have e:rest=[]:=List.eq_nil_of_length_eq_zero (by omega)
  rw [e] at hk
  simp at hk
 ·refine ⟨pb,off,off + 1,h1,hb,h2,h3,by rw [if_neg hc],fun hl=>⟨fun k q hk=>?_,fun x hx=>by injection hx with hx;subst hx;exact hb⟩⟩
  obtain ⟨pb',off',e1,e2,e3⟩:=h.1 (k + 1) q (by simpa using hk)
  rw [h1] at e1
  injection e1 with e1
  injection e1 with e4 e5
  subst e4
  subst e5
  refine ⟨pb,off + 1,rfl,e2,?_⟩
  rw [show off + 1 + k=off + (k + 1) by omega]
  exact e3
structure Pt (E:En) (W0:World) (b r R:Nat) (Z:Re) (W:World) (a:Option Addr) (cap:Nat) (ps:List Bytes) (slash:Bool) (fol s:Nat) (am an dm dn:Int) (last:Bytes):Prop where
 rn:Rn W b r R E am an (.slice a ps.length cap) slash fol s dm dn last
 be:Below W0.heap.size W0 W
 ro:Ro W b a ps
 le:ps.length≤cap
 mx:cap≤maxLen
 wt:Nm.wt ps≤5000
 fo:fol≤40
 wf:(kl an).wf=true
 no:Mt.any E.es (Mt.isAt am an)=false
 sb:s + ps.length≤(fol + 1) * 5000
 on:E.on fol slash ps dm dn last am an s=Z
attribute [local go_sem ↓] Go.wp_at_zero Go.wp_at_succ
section
variable {lo R:Nat} {W W0 W':World} {r b:Nat} {E:En} {rs:List Mt.Rm} {am an:Int} {lf:Value} {slash:Bool} {fol s:Nat} {dm dn:Int} {last:Bytes}
theorem Rn.stepped (h:Rn W b r R E am an lf slash fol s dm dn last) (g:Below W0.heap.size W0 W) (h0:W0.heap.size≤b):∃ X,W.setCell ⟨b,12,none⟩ (I ((s:Int) + 1))=X∧Rn X b r R E am an lf slash fol (s + 1) dm dn last∧Tz b W0 W X:=by
 obtain ⟨X,h1,h2,h3,h4,h5⟩:=h.turn (slash':=slash) (am':=am) (an':=an) (lf':=lf) (fol':=fol) (s':=s + 1) (dm':=dm) (dn':=dn) (last':=last) 12 (I ((s:Int) + 1)) (by unfold rwC;simp)
 exact ⟨X,h1,h2,h4,h5,h3 _ _ g h0⟩
theorem Rn.dired (h:Rn W b r R E am an lf slash fol s dm dn last) (g:Below W0.heap.size W0 W) (h0:W0.heap.size≤b) (x y:Int):∃ X1 X2,(W.setCell ⟨b,13,none⟩ (I x)=X1∧X1.setCell ⟨b,14,none⟩ (I y)=X2)∧(W.cell? ⟨b,13,none⟩=some (I dm)∧X1.cell? ⟨b,14,none⟩=some (I dn))∧(W.frozen? ⟨b,13,none⟩=false∧X1.frozen? ⟨b,14,none⟩=false)∧Rn X2 b r R E am an lf slash fol s x y last∧Tz b W0 W X2:=by
 obtain ⟨X1,h1,h2,h3,h4,h5⟩:=h.turn (slash':=slash) (am':=am) (an':=an) (lf':=lf) (fol':=fol) (s':=s) (dm':=x) (dn':=dn) (last':=last) 13 (I x) (by unfold rwC;simp)
 obtain ⟨X2,k1,k2,k3,k4,k5⟩:=h2.turn (slash':=slash) (am':=am) (an':=an) (lf':=lf) (fol':=fol) (s':=s) (dm':=x) (dn':=y) (last':=last) 14 (I y) (by unfold rwC;simp)
 exact ⟨X1,X2,⟨h1,k1⟩,⟨h.c2.2.2.2.1,h2.c2.2.2.2.2.1⟩,⟨h.c1.2.2.2.2.2.2.2.2.2.2 13,h2.c1.2.2.2.2.2.2.2.2.2.2 14⟩,k2,fun k hk=>(k4 k hk).trans (h4 k hk),k5.trans h5,k3 _ _ (h3 _ _ g h0) h0⟩
theorem no_down (D:Rd lo R W0 r E rs) (m n:Int):Mt.any E.es (Mt.isAt (E.down m n).1 (E.down m n).2)=false:=down_end D.mf.eld _ m n (Nat.le_refl _)
theorem upF_wf (h:∀ p ∈ E.es,(kl p.top).wf=true∧(kl p.an).wf=true):∀ (k:Nat) (x y:Int),(kl y).wf=true→(kl (upF E.es k x y).2).wf=true:=by
 intro k
 induction k with
 | zero=>intro x y h;exact h
 | succ k ih =>
  intro x y hy
  rw [upF]
  split
  ·exact ih _ _ (upN_wf h hy)
  ·exact hy
theorem dots_ok (D:Rd lo R W0 r E rs) (hn:(kl an).wf=true) (ha:Mt.any E.es (Mt.isAt am an)=false) (p:Bytes):(kl (E.dots p am an).2).wf=true∧Mt.any E.es (Mt.isAt (E.dots p am an).1 (E.dots p am an).2)=false:=by
 unfold En.dots
 split
 ·exact ⟨hn,ha⟩
 ·exact ⟨down_wf D.wf (tup_wf D.f.k (upF_wf D.wf _ _ _ hn)),no_down D _ _⟩
theorem found_wf (D:Rd lo R W0 r E rs) {p:Bytes} {k:Int} (hf:E.T.findN an (bs p)=some k):(kl k).wf=true:=by
 unfold Tr.findN at hf
 rw [Option.bind_eq_some_iff] at hf
 obtain ⟨dx,hdx,hg⟩:=hf
 obtain ⟨h1,h2⟩:=Tr.dir_some.1 hdx
 obtain ⟨yy,hyy⟩:=D.f.k.ent h1 (getE_some hg)
 exact D.f.k.wf (by omega) hyy
theorem text_le (D:Rd lo R W0 r E rs) (n:Int):(E.text n).length≤281474976710656:=by
 unfold En.text Tr.textOf
 split
 ·rename_i xx hxx
  have:=D.f.k.txt n xx hxx
  show xx.text.data.toList.length≤_
  rw [Array.length_toList]
  exact this
 ·simp
theorem wt_tail {p:Bytes} {rest:List Bytes} (h:Nm.wt (p :: rest)≤5000):Nm.wt rest≤5000:=by
 have:=wt_drop (p :: rest) 1
 simp only [List.drop_succ_cons,List.drop_zero] at this
 omega
def Pd (E:En) (W0:World) (b r R:Nat) (Z:Re) (fol n s:Nat) (x:Int) (o:Bool) (w':World):Prop :=
 (x≠0∧o=false∧Z.f=Fd.none∧Z.why=x∧Z.steps=s + 1∧Below W0.heap.size W0 w'∧∃ am an lf slash fol dm dn last,Rn w' b r R E am an lf slash fol (s + 1) dm dn last) ∨
 (x=0∧o=true∧Z.why=0∧Z.steps=s + 1∧Below W0.heap.size W0 w'∧∃ am an lf slash fol dm dn last,Rn w' b r R E am an lf slash fol (s + 1) dm dn last∧Z.f=⟨dm,dn,last,0,0,false,slash⟩) ∨
 (x=0∧o=false∧∃ a cap ps slash fol' am an dm dn last,Pt E W0 b r R Z w' a cap ps slash fol' (s + 1) am an dm dn last∧(fol < fol' ∨ (fol'=fol∧ps.length < n)))
def Po (E:En) (W0:World) (b r R:Nat) (Z:Re) (fol n s:Nat) (e:Ending) (w':World):Prop:=∃ x o,e=.returned (.tuple #[I x,.bool o])∧Pd E W0 b r R Z fol n s x o w'
end
end Go.Proofs.YtlngeaacjbdmhaaGreat.Wl
