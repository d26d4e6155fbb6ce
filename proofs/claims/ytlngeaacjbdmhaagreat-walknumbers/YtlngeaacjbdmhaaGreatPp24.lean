/-
 The contract of slices.DeleteFunc over the mounts,where it is so of one of them.
-/
import Derived.Test.YtlngeaacjbdmhaaGreatPp23
import Derived.Lib.SliceRun
import Derived.Test.YtlngeaacjbdmhaaGreatPp13
import Derived.Sort.AtCall
import Derived.Laws.Cover1
import Derived.Sort.Walk0
set_option maxRecDepth 100000
set_option maxHeartbeats 1000000
namespace Go.Proofs.YtlngeaacjbdmhaaGreat.Mt
open Go.RowKit
attribute [local go_sem ↓] Go.wp_at_zero Go.wp_at_succ
def kept (es:Ents) (P:Ld→Bool) (j:Nat):Ents:=(es.take j).filter fun p=>!P p
theorem kept_yes {es:Ents} {P:Ld→Bool} {j:Nat} {p:Ld} (h:es[j]?=some p) (hp:P p=false):kept es P (j + 1)=kept es P j ++ [p]:=by
 rw [kept,kept,List.take_add_one,h];simp [hp]
theorem kept_no {es:Ents} {P:Ld→Bool} {j:Nat} {p:Ld} (h:es[j]?=some p) (hp:P p=true):kept es P (j + 1)=kept es P j:=by
 rw [kept,kept,List.take_add_one,h];simp [hp]
theorem kept_le (es:Ents) (P:Ld→Bool) (j:Nat):(kept es P j).length≤j:=by
 have:=List.length_filter_le (fun p=>!P p) (es.take j)
 simp [kept] at this ⊢
 omega
theorem kept_first {es:Ents} {P:Ld→Bool} {i:Nat} (hi:es.findIdx P=i) (hn:i < es.length):kept es P (i + 1)=es.take i:=by
 subst hi
 have h1:P es[es.findIdx P]=true:=List.findIdx_getElem (w:=hn)
 rw [kept_no (List.getElem?_eq_getElem hn) h1,kept]
 rw [List.filter_eq_self]
 intro p hp
 obtain ⟨k,hk,rfl⟩:=List.mem_take_iff_getElem.1 hp
 have:=List.not_of_lt_findIdx (xs:=es) (p:=P) (i:=k) (by omega)
 simp [this]
structure DJ (base g n cap:Nat) (es:Ents) (P:Ld→Bool) (w W:World) (j:Nat) (ej:Ents):Prop where
 len:ej.length=n
 own:W.ownsRow base 182 4 (.slice (some ⟨g,0,none⟩) n cap) n (rowsOf row ej)
 lo:∀ k,k < (kept es P j).length→ej[k]?=(kept es P j)[k]?
 hi:∀ k,j≤k→ej[k]?=es[k]?
 fr:Fr [g] w W
theorem heap_setCells {b:Nat} {t:TypeId}:∀ (vs:List Value) (o:Nat) (W:World) (cs:Array Value),W.heap[b]?=some (.cells cs t)→o + vs.length≤cs.size →
  ∃ cs':Array Value,(W.setCells b o vs).heap[b]?=some (.cells cs' t)∧cs'.toList=cs.toList.take o ++ vs ++ cs.toList.drop (o + vs.length)
 | [],o,W,cs,h,_=>⟨cs,h,by simp⟩
 | v :: r,o,W,cs,h,hl=>by
  simp only [List.length_cons] at hl
  obtain ⟨cs',h1,h2⟩:=heap_setCells r (o + 1) (W.setCell ⟨b,o,none⟩ v) (cs.setIfInBounds o v) (heap_set h o v) (by simp;omega)
  refine ⟨cs',h1,?_⟩
  have hlt:o < cs.toList.length:=by simp;omega
  have e:(cs.setIfInBounds o v).toList=cs.toList.take o ++ v :: cs.toList.drop (o + 1):=by
   rw [Array.toList_setIfInBounds,List.set_eq_take_append_cons_drop,if_pos hlt]
  have hto:(cs.toList.take o).length=o:=by rw [List.length_take];omega
  rw [h2,e,List.take_append,List.drop_append,hto]
  have hdn:(cs.toList.take o).drop (o + 1 + r.length)=[]:=List.drop_eq_nil_of_le (by omega)
  rw [List.take_of_length_le (l:=cs.toList.take o) (by omega),hdn]
  rw [show o + 1 - o=1 by omega,show o + 1 + r.length - o=r.length + 1 by omega,show o + (v :: r).length=o + 1 + r.length by simp;omega]
  simp
theorem fr_setCells (b:Nat):∀ (vs:List Value) (o:Nat) (W:World),Fr [b] W (W.setCells b o vs)
 | [],_,W=>Fr.refl _ W
 | v :: r,o,W=>((Fr.refl [b] W).set (a:=⟨b,o,none⟩) (by simp) v).trans (fr_setCells b r (o + 1) _)
theorem clear_last {base g n cap:Nat} {ej:Ents} {W:World} (own:W.ownsRow base 182 4 (.slice (some ⟨g,0,none⟩) n cap) n (rowsOf row ej)) (hn:ej.length=n) (h0:0 < n) :
  ∃ W1:World,(∀ ty,(Builtin.clear_ #[219] ty #[.slice (some ⟨g,(n - 1) * 4,none⟩) 1 (cap - (n - 1))]).run Tryz.prog W=.ok (.tuple #[]) W1)∧W1.ownsRow base 182 4 (.slice (some ⟨g,0,none⟩) (n - 1) cap) (n - 1) (rowsOf row (ej.take (n - 1)))∧Fr [g] W W1:=by
 obtain ⟨i0,hi0,hz0,hz1,hz2⟩:=info_parts infoL
 obtain ⟨hl0,⟨e0,_⟩ | ⟨g',cap',cur,e0,hgb,hgg,hcap,hcm,hcs,htk⟩⟩:=own
 ·simp at e0
 simp only [Value.slice.injEq,Option.some.injEq,Addr.mk.injEq] at e0
 obtain ⟨⟨rfl,-,-⟩,-,rfl⟩:=e0
 obtain ⟨cs2,d1,d2⟩:=heap_setCells (b:=g) (t:=182) [I 0,I 0,I 0,I 0] ((n - 1) * 4) W cur hgg (by simp;omega)
 refine ⟨W.setCells g ((n - 1) * 4) [I 0,I 0,I 0,I 0],?_,⟨?_,.inr ⟨g,cap,cs2,rfl,hgb,d1,by omega,hcm,?_,?_⟩⟩,fr_setCells _ _ _ _⟩
 ·intro ty
  have hst:=run_storeCells_cells (P:=Tryz.prog) g ((n - 1) * 4) [I 0,I 0,I 0,I 0] 0 W
   (fun j hj=>by simp at hj;rw [cell_of hgg,Array.getElem?_eq_getElem (by omega)];rfl) (fun j _=>frozen_of hgg _) (by intro v hv;simp at hv;rw [hv];rfl)
  simp only [Nat.add_zero] at hst
  have hzc:(Builtin.zeroCells (Value.agg #[I 0,I 0,I 0,I 0]).cells 1).toList=[I 0,I 0,I 0,I 0]:=by kernel_rfl
  simp [Builtin.clear_,run_underlying Tryz.underlying219,hzc,hst]
 ·rw [rows_len];simp;omega
 ·have:cs2.toList.length=cap * 4:=by rw [d2];simp;omega
  simpa using this
 ·have l1:(cur.toList.take ((n - 1) * 4)).length=(n - 1) * 4:=by simp;omega
  rw [d2,List.append_assoc,List.take_left' l1,rows_take,← htk,List.take_take,show min ((n - 1) * 4) (n * 4)=(n - 1) * 4 by omega]
theorem delF_any (base g n cap:Nat) (es:Ents) (F x:Nat) (P:Ld→Bool) (w:World) (hn:es.length=n) (hown:w.ownsRow base 182 4 (.slice (some ⟨g,0,none⟩) n cap) n (rowsOf row es)) (hl:n≤1000) (hgx:g≠x) (hbx:x < w.heap.size)
  (hone:(kept es P n).length + 1=n) (hany:es.findIdx P < n)
  (hE:∀ args w,(callFunc F args).run Tryz.prog w=.ok (.enter F args) w)
  (hF:∀ p W,W.heap[x]?=w.heap[x]?→Calls Tryz.prog F #[lv p,.pointer (some ⟨x,0,none⟩)] W fun e W'=>e=.returned (.bool (P p))∧Below W.heap.size W W') :
  Calls Tryz.prog 153 #[.slice (some ⟨g,0,none⟩) n cap,.func (.func F) #[] #[.pointer (some ⟨x,0,none⟩)]] w fun e w'=>e=.returned (.slice (some ⟨g,0,none⟩) (n - 1) cap) ∧
   w'.ownsRow base 182 4 (.slice (some ⟨g,0,none⟩) (n - 1) cap) (n - 1) (rowsOf row (kept es P n))∧Fr [g] w w':=by
 obtain ⟨i,hi⟩:∃ i,es.findIdx P=i:=⟨_,rfl⟩
 rw [hi] at hany
 have HI:=hide (idx_any base g n cap es F x P w hn hown hl i hi hany hE (fun p W hB=>hF p W (hB.block x hbx)))
 have J0:∀ W,Below w.heap.size w W→DJ base g n cap es P w W (i + 1) es:=fun W hB=>by
  have hk:=kept_first hi (by omega)
  exact ⟨hn,own_keep hown (fun k cur hc=>hB.block k (lt_of_heap hc)),fun k hk'=>by rw [hk] at hk' ⊢;rw [List.getElem?_take_of_lt];simp at hk';omega,fun _ _=>rfl,Fr.of_below hB⟩
 have HJ0:=hide J0
 have HF:=hide hF
 have Hn:=hide hn
 have Hk:=hide (kept_first hi (by omega:i < es.length))
 clear hF J0 hown hn hi
 go_enter Tryz.func153,Tryz.ntmps153
 go_wp2_with fail
 refine (unhide HI).mono ?_
 rintro e w1 ⟨rfl,hB⟩
 have HJ:=hide (unhide HJ0 w1 hB)
 clear HI HJ0 hB
 have j1:¬ (i:Int)=-1:=by omega
 go_wp2_with fail
 have j2:((i:Int) == -1)=false:=by simp
 simp only [j2]
 go_loopw [5,6] (fun vi vj wr=>∃ (j:Nat) (ej:Ents),j≤n∧vi=I ((kept es P j).length:Int)∧vj=I (j:Int)∧DJ base g n cap es P w wr j ej) (fun _ vj _=>n - (intOf vj).toNat)
 case atStart=>exact ⟨i + 1,es,by omega,by rw [unhide Hk];simp;have:=unhide Hn;omega,by go_num,unhide HJ⟩
 case round =>
  clear HJ Hk
  obtain ⟨j,ej,hj,rfl,rfl,J⟩:=hrel
  have hkl:=kept_le es P j
  by_cases hjn:j < n
  ·have hje:j < es.length:=by have:=unhide Hn;omega
   obtain ⟨p,hp⟩:∃ p,es[j]?=some p:=⟨_,List.getElem?_eq_getElem hje⟩
   have hpe:=(J.hi j (Nat.le_refl _)).trans hp
   obtain ⟨g',eg,c0,c1,c2,c3,_,hgl⟩:=own_at J.own hpe J.len
   simp only [Option.some.injEq,Addr.mk.injEq,and_true] at eg
   subst eg
   obtain ⟨W2,hW2⟩:∃ W2,wr.alloc (.cells #[I p.n,I p.top,I p.am,I p.an] 182)=W2:=⟨_,rfl⟩
   have hm2:W2.heap[wr.heap.size]?=some (.cells #[I p.n,I p.top,I p.am,I p.an] 182):=by rw [← hW2];exact putAll _ _ rfl
   have hB2:Below wr.heap.size wr W2:=by rw [← hW2];exact below_alloc _ _
   obtain ⟨l0,l1,l2,l3⟩:=cells4 hm2
   have hxr:x < wr.heap.size:=Nat.lt_of_lt_of_le hbx J.fr.size
   have HC:=hide (unhide HF p W2 ((hB2.block x hxr).trans (J.fr.blk x hbx (by simp;exact fun h=>hgx h.symm))))
   have q1:(j:Int) < (n:Int):=by omega
   have q0:(0:Int)≤(j:Int):=by omega
   have HJ:=hide J
   have Hp:=hide hp
   have HB2:=hide hB2
   have Hm2:=hide hm2
   clear J hp hpe hje hB2 hm2 HF
   go_wp2_with fail
   refine (unhide HC).mono ?_
   rintro e w2 ⟨rfl,hB3⟩
   have hB4:=(unhide HB2).trans (hB3.mono (unhide HB2).size)
   have hm3:=(hB3.block _ (lt_of_heap (unhide Hm2))).trans (unhide Hm2)
   have J3:DJ base g n cap es P w w2 j ej:=⟨(unhide HJ).len,own_keep (unhide HJ).own (fun k cur hc=>hB4.block k (lt_of_heap hc)),(unhide HJ).lo,(unhide HJ).hi,(unhide HJ).fr.trans (Fr.of_below hB4)⟩
   have hgy:g≠wr.heap.size:=by omega
   clear l0 l1 l2 l3 c0 c1 c2 c3 HC HJ HB2 Hm2 hB3 hB4 hW2
   cases hP:P p with
   | true =>
    have HN:=hide (⟨j + 1,ej,by omega,by rw [kept_no (unhide Hp) hP],by go_num,⟨J3.len,J3.own,fun k hk=>by rw [kept_no (unhide Hp) hP] at hk ⊢;exact J3.lo k hk,fun k hk=>J3.hi k (by omega),J3.fr⟩⟩:∃ (j':Nat) (ej:Ents),j'≤n∧I ((kept es P j).length:Int)=I ((kept es P j').length:Int)∧I ((j:Int) + 1)=I (j':Int)∧DJ base g n cap es P w w2 j' ej)
    clear J3 hm3 hP
    generalize (kept es P j).length=c at *
    go_wp2_with fail
    go_roundw
    case rel=>exact unhide HN
    case measure=>simp [intOf];omega
   | false =>
    obtain ⟨q,hq⟩:∃ q,ej[(kept es P j).length]?=some q:=⟨_,List.getElem?_eq_getElem (by have:=J3.len;omega)⟩
    obtain ⟨X1,X2,X3,X4,⟨x1,x2,x3,x4⟩,⟨c0,c1,c2,c3⟩,⟨f0,f1,f2,f3⟩,own4,hfr,hsz⟩:=own_set4 (p:=p) J3.own J3.len hq
    obtain ⟨l0,l1,l2,l3⟩:=cells4 hm3
    have hlk:(kept es P (j + 1)).length=(kept es P j).length + 1:=by rw [kept_yes (unhide Hp) hP];simp
    have J4:DJ base g n cap es P w X4 (j + 1) (ej.set (kept es P j).length p):=by
     refine ⟨by simp;exact J3.len,own4,fun k hk=>?_,fun k hk=>?_,J3.fr.trans hfr⟩
     ·rw [hlk] at hk
      rw [kept_yes (unhide Hp) hP]
      by_cases e:k=(kept es P j).length
      ·subst e
       rw [List.getElem?_set_self (by have:=J3.len;omega)]
       simp
      ·rw [List.getElem?_set_ne (fun h=>e h.symm),List.getElem?_append_left (by omega)]
       exact J3.lo k (by omega)
     ·rw [List.getElem?_set_ne (by omega)]
      exact J3.hi k (by omega)
    have HN:=hide (⟨j + 1,_,by omega,by rw [hlk];go_num,by go_num,J4⟩:∃ (j':Nat) (ej:Ents),j'≤n∧I (((kept es P j).length:Int) + 1)=I ((kept es P j').length:Int)∧I ((j:Int) + 1)=I (j':Int)∧DJ base g n cap es P w X4 j' ej)
    clear J3 J4 hm3 hP hlk own4 hfr hsz hq
    generalize (kept es P j).length=c at *
    have y1:(c:Int) < (n:Int):=by omega
    have y0:(0:Int)≤(c:Int):=by omega
    go_wp2_with fail
    go_roundw
    case rel=>exact unhide HN
    case measure=>simp [intOf];omega
  ·obtain rfl:j=n:=by omega
   obtain ⟨W1,hcl,ownc,hfc⟩:=clear_last J.own J.len (by omega)
   have ek:ej.take (j - 1)=kept es P j:=by
    apply List.ext_getElem?
    intro k
    by_cases hk:k < j - 1
    ·rw [List.getElem?_take_of_lt hk]
     exact J.lo k (by omega)
    ·rw [List.getElem?_eq_none (by simp;omega),List.getElem?_eq_none (by omega)]
   rw [ek] at ownc
   have HO:=hide ownc
   have HFR:=hide (J.fr.trans hfc)
   have hcap:j≤cap:=by
    obtain ⟨-,⟨e0,_⟩ | ⟨_,_,_,e0,_,_,h,_⟩⟩:=J.own
    ·simp at e0
    ·simp at e0;omega
   have hlen:(kept es P j).length=j - 1:=by omega
   rw [hlen]
   have y1:((j - 1:Nat):Int)≤(j:Int):=by omega
   have y0:(0:Int)≤((j - 1:Nat):Int):=by omega
   have e2:j - (j - 1)=1:=by omega
   have e3:¬ cap=j - 1:=by omega
   clear J ek ownc hfc hkl HF Hn hlen hone
   generalize hc:j - 1=c at *
   have Hc:=hide hc
   clear hc
   go_wp2_with fail
   go_ret
   rw [unhide Hc]
   exact ⟨rfl,unhide HO,unhide HFR⟩
attribute [local go_sem ↓] Go.wp_at_zero Go.wp_at_succ
def Rise (es:Ents):Prop:=es.Pairwise fun p q=>p.n < q.n
def unb (es:Ents) (m:Int):Ents:=es.filter fun p=>!isN m p
theorem any_iff {es:Ents} {P:Ld→Bool}:any es P=true ↔ ∃ p ∈ es,P p=true:=by
 rw [any,List.find?_isSome]
theorem any_false {es:Ents} {P:Ld→Bool}:any es P=false ↔ ∀ p ∈ es,P p=false:=by
 rw [← Bool.not_eq_true,any_iff]
 simp
theorem one_gone:∀ {es:Ents} {m:Int},Rise es→any es (isN m)=true→(unb es m).length + 1=es.length
 | [],m,_,h=>by simp [any] at h
 | p :: es,m,hr,h=>by
  obtain ⟨h1,h2⟩:=List.pairwise_cons.1 hr
  by_cases e:p.n=m
  ·have hne:∀ q ∈ es,(!isN m q)=true:=by
    intro q hq
    have:=h1 q hq
    simp [isN]
    omega
   rw [unb,List.filter_cons_of_neg (by simp [isN,e]),List.filter_eq_self.2 hne]
   simp
  ·have ha:any es (isN m)=true:=by
    obtain ⟨q,hq,hm⟩:=any_iff.1 h
    rcases List.mem_cons.1 hq with rfl | hq
    ·simp [isN] at hm;exact absurd hm e
    ·exact any_iff.2 ⟨q,hq,hm⟩
   have ih:=one_gone h2 ha
   rw [unb,List.filter_cons_of_pos (by simp [isN,e])]
   simp only [unb] at ih
   simp
   omega
def unbE (es:Ents) (m:Int):Int:=if any es (isN m)=false then 1 else if any es (isM m)=true then 15 else 0
theorem unbind_no (base b:Nat) (rt md m k:Int) (es:Ents) (w:World) (hG:Ls base w b rt md es) (hes:es.length≤1000) (hk:unbE es m=k) (h0:k≠0) :
  Calls Tryz.prog 99 #[.pointer (some ⟨b,0,none⟩),I m] w fun e w'=>e=.returned (I k)∧Below w.heap.size w w':=by
 obtain ⟨V,hV,hs,hx,hb⟩:∃ V,w.alloc (.cells #[I m] 3)=V∧V.heap.size=w.heap.size + 1∧V.heap[w.heap.size]?=some (.cells #[I m] 3)∧Below w.heap.size w V:=⟨_,rfl,by simp,putAll _ _ rfl,below_alloc _ _⟩
 have v0:V.cell? ⟨w.heap.size,0,none⟩=some (I m):=by rw [cell_of hx];rfl
 have H1:=hide (numbered_any base b rt md m es V (hG.below hb) hes)
 have H2:=hide (fun W (hB:Below V.heap.size V W)=>first_any base b rt md es 152 w.heap.size (isM m) W ((hG.below hb).below hB) hes (enters_of Tryz.func152 (by kernel_rfl) rfl)
  (fun p X hX=>un1_any p _ m X (by rw [World.cell?_of_block (hX.block w.heap.size (by have:=hB.size;omega)),World.cell?_of_block (hB.block w.heap.size (by omega))];exact v0)))
 unfold unbE at hk
 generalize fst es (isN m)=x1 at *
 generalize any es (isN m)=y1 at *
 generalize fst es (isM m)=x2 at *
 generalize any es (isM m)=y2 at *
 have HB:=hide hb
 clear hG hb hx
 go_enter Tryz.func99,Tryz.ntmps99
 go_wp2_with fail
 refine (unhide H1).mono ?_
 rintro e w1 ⟨rfl,hB⟩
 have hE:=hide ((unhide HB).trans (hB.mono (by omega)))
 have hB1:=hB.alloc hB.size (.cells #[I x1.n,I x1.top,I x1.am,I x1.an] 182)
 cases y1 with
 | false =>
  obtain rfl:1=k:=by simpa using hk
  clear hB hB1 HB H1 H2 hV h0 hk v0
  unfold lv
  go_wp2_with fail
  go_ret
  exact ⟨rfl,(unhide hE).alloc (unhide hE).size _⟩
 | true =>
  obtain rfl:y2=true:=by
   cases y2 with
   | true=>rfl
   | false=>exact absurd (by simpa using hk.symm) h0
  obtain rfl:15=k:=by simpa using hk
  have H2':=hide (unhide H2 _ hB1)
  have hE1:=hide ((unhide HB).trans (hB1.mono (by omega)))
  clear hB hB1 H1 H2 hV h0 hk v0 hE HB
  unfold lv
  go_wp2_with fail
  refine (unhide H2').mono ?_
  rintro e w2 ⟨rfl,hB2⟩
  have hE2:=hide ((unhide hE1).trans (hB2.mono (unhide hE1).size))
  clear hB2 hE1 H2'
  unfold lv
  go_wp2_with fail
  go_ret
  exact ⟨rfl,(unhide hE2).alloc (unhide hE2).size _⟩
theorem unbind_yes (base b:Nat) (rt md m:Int) (es:Ents) (w:World) (hG:Ls base w b rt md es) (hes:es.length≤1000) (hr:Rise es) (hk:unbE es m=0) :
  Calls Tryz.prog 99 #[.pointer (some ⟨b,0,none⟩),I m] w fun e w'=>e=.returned (I 0)∧Ls base w' b rt md (unb es m)∧Fm base b w w':=by
 obtain ⟨V,hV,hs,hx,hb⟩:∃ V,w.alloc (.cells #[I m] 3)=V∧V.heap.size=w.heap.size + 1∧V.heap[w.heap.size]?=some (.cells #[I m] 3)∧Below w.heap.size w V:=⟨_,rfl,by simp,putAll _ _ rfl,below_alloc _ _⟩
 have v0:V.cell? ⟨w.heap.size,0,none⟩=some (I m):=by rw [cell_of hx];rfl
 have hbase:=hG.base_le
 have hbl:=hG.lt
 have H1:=hide (numbered_any base b rt md m es V (hG.below hb) hes)
 have H2:=hide (fun W (hB:Below V.heap.size V W)=>first_any base b rt md es 152 w.heap.size (isM m) W ((hG.below hb).below hB) hes (enters_of Tryz.func152 (by kernel_rfl) rfl)
  (fun p X hX=>un1_any p _ m X (by rw [World.cell?_of_block (hX.block w.heap.size (by have:=hB.size;omega)),World.cell?_of_block (hB.block w.heap.size (by omega))];exact v0)))
 have hya:any es (isN m)=true:=by
  cases h:any es (isN m) with
  | true=>rfl
  | false=>simp [unbE,h] at hk
 have hyb:any es (isM m)=false:=by
  cases h:any es (isM m) with
  | false=>rfl
  | true=>simp [unbE,h,hya] at hk
 have hone:=one_gone hr hya
 have hidx:es.findIdx (isN m) < es.length:=List.findIdx_lt_length.2 (any_iff.1 hya)
 have hkept:kept es (isN m) es.length=unb es m:=by rw [kept,List.take_length];rfl
 -- the row's own block,and DeleteFunc
 have H3:Hid (∀ W,Below V.heap.size V W→∃ g cap,(W.cell? ⟨b,2,none⟩=some (.slice (some ⟨g,0,none⟩) es.length cap)∧W.frozen? ⟨b,2,none⟩=false) ∧
   Calls Tryz.prog 153 #[.slice (some ⟨g,0,none⟩) es.length cap,.func (.func 154) #[] #[.pointer (some ⟨w.heap.size,0,none⟩)]] W fun e w'=>e=.returned (.slice (some ⟨g,0,none⟩) (es.length - 1) cap) ∧
    (w'.cell? ⟨b,2,none⟩=some (.slice (some ⟨g,0,none⟩) es.length cap)∧w'.frozen? ⟨b,2,none⟩=false)∧Ls base (w'.setCell ⟨b,2,none⟩ (.slice (some ⟨g,0,none⟩) (es.length - 1) cap)) b rt md (unb es m)∧Fm base b w (w'.setCell ⟨b,2,none⟩ (.slice (some ⟨g,0,none⟩) (es.length - 1) cap))):=by
  intro W hB
  have GW:=(hG.below hb).below hB
  obtain ⟨a,cap,c0,c1,c2,cf,own⟩:=GW.cells
  obtain ⟨g,⟨_,hz,_⟩ | rfl⟩:=own_addr own
  ·omega
  have hgw:g < w.heap.size:=by
   obtain ⟨a',cap',_,_,d2,_,own'⟩:=hG.cells
   have hbW:=(hB.block b (by omega)).trans (hb.block b hbl)
   rw [World.cell?_of_block (a:=⟨b,2,none⟩) hbW,d2] at c2
   simp only [Option.some.injEq,Value.slice.injEq] at c2
   obtain ⟨rfl,-,rfl⟩:=c2
   obtain ⟨g',_,cur,e1,_,hg,_⟩:=own_open own' (by omega)
   simp only [Value.slice.injEq,Option.some.injEq,Addr.mk.injEq] at e1
   rw [e1.1.1]
   exact lt_of_heap hg
  have hB0:=hb.trans (hB.mono (by omega))
  refine ⟨g,cap,⟨c2,cf 2⟩,(delF_any base g es.length cap es 154 w.heap.size (isN m) W rfl own hes (by omega) (by have:=hB.size;omega) (by rw [hkept];exact hone) hidx (enters_of Tryz.func154 (by kernel_rfl) rfl)
   (fun p X hX=>un2_any p _ m X (by rw [World.cell?_of_block hX,World.cell?_of_block (hB.block w.heap.size (by omega))];exact v0))).mono ?_⟩
  rintro e w' ⟨rfl,own2,hfr⟩
  rw [hkept] at own2
  have hgB:base≤g∧∃ cur,W.heap[g]?=some (.cells cur 182):=by
   obtain ⟨g',_,cur,e1,h1,hg,_⟩:=own_open own (by omega)
   simp only [Value.slice.injEq,Option.some.injEq,Addr.mk.injEq] at e1
   rw [e1.1.1]
   exact ⟨h1,cur,hg⟩
  obtain ⟨hgb,cur,hgc⟩:=hgB
  obtain ⟨a0,cap0,hbW,_⟩:=GW.hb
  have hbg:b≠g:=by
   rintro rfl
   rw [hbW] at hgc
   simp at hgc
  have hbw':w'.heap[b]?=some (.cells #[I rt,I md,.slice a0 es.length cap0] 221):=(hfr.blk b GW.lt (by simpa using hbg)).trans hbW
  have ec:w'.cell? ⟨b,2,none⟩=some (.slice (some ⟨g,0,none⟩) es.length cap):=(World.cell?_of_block (hfr.blk b GW.lt (by simpa using hbg))).trans c2
  refine ⟨rfl,⟨ec,frozen_of hbw' 2⟩,⟨⟨some ⟨g,0,none⟩,cap,?_,?_⟩,hG.kb⟩,?_⟩
  ·rw [heap_set hbw',show (unb es m).length=es.length - 1 by omega];simp
  ·rw [show (unb es m).length=es.length - 1 by omega]
   refine own_keep own2 fun k cur hc=>Below.heap_setCell _ _ _ _ ?_
   rintro rfl
   rw [hbw'] at hc
   simp at hc
  ·refine (Fm.of_below hB0 hbase).trans ((⟨hfr.os,hfr.tape,hfr.output,hfr.size,fun k hk=>hfr.blk k (by have:=hB0.size;omega) (by simp;omega),fun k o h1 h2 h3=>(hfr.blk k (lt_of_heap h1) ?_).trans h1⟩:Fm base b W w').set (p:=⟨b,2,none⟩) rfl hG.kb _)
   simp
   rintro rfl
   rw [hgc] at h1
   exact h3 _ (Option.some.inj h1).symm
 rw [hyb] at H2
 rw [hya] at H1
 generalize fst es (isN m)=x1 at *
 generalize fst es (isM m)=x2 at *
 clear hG hb hx hya hyb hidx hkept hk hr
 have hlen:1≤es.length:=by omega
 obtain ⟨n,hn⟩:∃ n,n=es.length:=⟨_,rfl⟩
 rw [← hn] at H3 hlen
 clear hone hes hn
 go_enter Tryz.func99,Tryz.ntmps99
 go_wp2_with fail
 refine (unhide H1).mono ?_
 rintro e w1 ⟨rfl,hB⟩
 have hB1:=hB.alloc hB.size (.cells #[I x1.n,I x1.top,I x1.am,I x1.an] 182)
 have H2':=hide (unhide H2 _ hB1)
 have HB1:=hide hB1
 clear hB hB1 H1 H2 hV v0
 unfold lv
 go_wp2_with fail
 refine (unhide H2').mono ?_
 rintro e w2 ⟨rfl,hB2⟩
 have hB3:=(unhide HB1).trans (hB2.mono (unhide HB1).size)
 have hB4:=hB3.alloc hB3.size (.cells #[I x2.n,I x2.top,I x2.am,I x2.an] 182)
 obtain ⟨g,cap,⟨c2,cf⟩,HD⟩:=unhide H3 _ hB4
 have HD':=hide HD
 clear hB2 hB3 hB4 HB1 H2' H3 HD
 unfold lv
 go_wp2_with fail
 refine (unhide HD').mono ?_
 rintro e w3 ⟨rfl,⟨d2,df⟩,hL,hF⟩
 have HL:=hide hL
 have HF:=hide hF
 clear hL hF HD' c2 cf
 generalize n - 1=n1 at *
 go_wp2_with fail
 go_ret
 exact ⟨rfl,unhide HL,unhide HF⟩
structure T where
 rt:Int
 md:Int
 es:Ents
structure Wf (B:Int) (t:T):Prop where
 rise:Rise t.es
 eld:Eld t.md t.es
 le:t.es.length≤7
 pos:0≤t.md∧t.md≤B
 num:∀ p ∈ t.es,0 < p.n
 up:∀ p ∈ t.es,rootIs t.es p.am=true
 one:t.es.Pairwise fun p q=>¬ (p.am=q.am∧p.an=q.an)
def T.bind (t:T) (am an nd:Int):T:=if bindE t.es am an=0 then ⟨t.rt,t.md + 1,t.es ++ [⟨t.md + 1,nd,am,an⟩]⟩ else t
def T.bindN (t:T) (am an:Int):Int:=if bindE t.es am an=0 then t.md + 1 else 0
def T.unbind (t:T) (m:Int):T:=if unbE t.es m=0 then ⟨t.rt,t.md,unb t.es m⟩ else t
theorem Wf.new (r:Int):Wf 0 ⟨r,0,[]⟩:=by
 refine ⟨?_,?_,?_,?_,?_,?_,?_⟩ <;> simp [Rise,Eld]
theorem Wf.mono {B B':Int} {t:T} (h:Wf B t) (hB:B≤B'):Wf B' t:=⟨h.rise,h.eld,h.le,⟨h.pos.1,by have:=h.pos.2;omega⟩,h.num,h.up,h.one⟩
theorem any_append {es fs:Ents} {P:Ld→Bool}:any (es ++ fs) P=(any es P || any fs P):=by
 simp [any,List.find?_append]
theorem rootIs_append {es fs:Ents} {m:Int} (h:rootIs es m=true):rootIs (es ++ fs) m=true:=by
 unfold rootIs at *
 split at h
 ·rename_i e
  rw [if_pos e]
 ·rename_i e
  rw [if_neg e,any_append,h];rfl
theorem bindE_zero {es:Ents} {am an:Int} (h:bindE es am an=0):rootIs es am=true∧any es (isAt am an)=false∧es.length < 7:=by
 unfold bindE at h
 cases h1:rootIs es am with
 | false=>simp [h1] at h
 | true =>
  cases h2:any es (isAt am an) with
  | true=>simp [h1,h2] at h
  | false =>
   simp [h1,h2] at h
   exact ⟨rfl,rfl,by omega⟩
theorem root_le {B:Int} {t:T} (h:Wf B t) {m:Int} (hr:rootIs t.es m=true):m≤t.md:=by
 unfold rootIs at hr
 split at hr
 ·have:=h.pos;omega
 ·obtain ⟨p,hp,he⟩:=any_iff.1 hr
  simp [isN] at he
  have:=(h.eld p hp).2
  omega
theorem Wf.bind {B:Int} {t:T} (h:Wf B t) (am an nd:Int):Wf (B + 1) (t.bind am an nd):=by
 unfold T.bind
 split
 ·rename_i hz
  obtain ⟨h1,h2,h3⟩:=bindE_zero hz
  have hle:=root_le h h1
  have hp:=h.pos
  refine ⟨?_,?_,?_,?_,?_,?_,?_⟩
  ·refine List.pairwise_append.2 ⟨h.rise,by simp,fun p hp' q hq=>?_⟩
   simp at hq;subst hq
   have:=(h.eld p hp').2
   simp;omega
  ·intro p hp'
   rcases List.mem_append.1 hp' with hp' | hp'
   ·have:=h.eld p hp'
    simp;omega
   ·simp at hp';subst hp'
    simp;omega
  ·simp;omega
  ·simp;omega
  ·intro p hp'
   rcases List.mem_append.1 hp' with hp' | hp'
   ·exact h.num p hp'
   ·simp at hp';subst hp';simp;omega
  ·intro p hp'
   rcases List.mem_append.1 hp' with hp' | hp'
   ·exact rootIs_append (h.up p hp')
   ·simp at hp';subst hp';exact rootIs_append h1
  ·refine List.pairwise_append.2 ⟨h.one,by simp,fun p hp' q hq=>?_⟩
   simp at hq;subst hq
   have:=any_false.1 h2 p hp'
   simpa [isAt] using this
 ·exact h.mono (by omega)
theorem unbE_zero {es:Ents} {m:Int} (h:unbE es m=0):any es (isN m)=true∧any es (isM m)=false:=by
 unfold unbE at h
 cases h1:any es (isN m) with
 | false=>simp [h1] at h
 | true =>
  cases h2:any es (isM m) with
  | true=>simp [h1,h2] at h
  | false=>exact ⟨rfl,rfl⟩
theorem Wf.unbind {B:Int} {t:T} (h:Wf B t) (m:Int):Wf B (t.unbind m):=by
 unfold T.unbind
 split
 ·rename_i hz
  obtain ⟨h1,h2⟩:=unbE_zero hz
  have hsub:(unb t.es m).Sublist t.es:=List.filter_sublist
  refine ⟨h.rise.sublist hsub,fun p hp=>h.eld p (hsub.subset hp),?_,h.pos,fun p hp=>h.num p (hsub.subset hp),fun p hp=>?_,h.one.sublist hsub⟩
  ·have:=hsub.length_le;have:=h.le;simp;omega
  ·have hp':=hsub.subset hp
   have hu:=h.up p hp'
   have hne:¬ p.am=m:=by
    have:=any_false.1 h2 p hp'
    simpa [isM] using this
   unfold rootIs at hu ⊢
   split
   ·rfl
   ·rename_i h0
    rw [if_neg h0] at hu
    obtain ⟨q,hq,he⟩:=any_iff.1 hu
    refine any_iff.2 ⟨q,List.mem_filter.2 ⟨hq,?_⟩,he⟩
    simp [isN] at he ⊢
    omega
 ·exact h
structure Tq (B:Int) (base:Nat) (W:World) (b:Nat) (t:T):Prop where
 ls:Ls base W b t.rt t.md t.es
 wf:Wf B t
theorem Tq.below {B:Int} {base:Nat} {W W':World} {b:Nat} {t:T} (h:Tq B base W b t) (g:Below W.heap.size W W'):Tq B base W' b t:=⟨h.ls.below g,h.wf⟩
theorem Tq.fm {B:Int} {base:Nat} {W W':World} {b:Nat} {t:T} (h:Tq B base W b t) (hk:∀ (k:Nat) (cur:Array Value) (ty:TypeId),W.heap[k]?=some (.cells cur ty (0,0))→(k=b ∨ ty=182)→W'.heap[k]?=W.heap[k]?):Tq B base W' b t:=⟨h.ls.keep hk,h.wf⟩
theorem new_Q (r:Int) (w:World):Calls Tryz.prog 96 #[I r] w fun e w'=>e=.returned (.pointer (some ⟨w.heap.size,0,none⟩))∧Tq 0 w.heap.size w' w.heap.size ⟨r,0,[]⟩∧Below w.heap.size w w' :=
 (new_any r w).mono fun _ _ ⟨h1,h2,h3⟩=>⟨h1,⟨h2,Wf.new r⟩,h3⟩
section
variable {B:Int} {base:Nat} {w:World} {b:Nat} {t:T}
theorem bind_Q (h:Tq B base w b t) (hB:B < 1000000) (am an nd:Int) :
  Calls Tryz.prog 148 #[.pointer (some ⟨b,0,none⟩),pv am an,I nd] w fun e w'=>e=.returned (.tuple #[I (t.bindN am an),I (bindE t.es am an)])∧Tq (B + 1) base w' b (t.bind am an nd)∧Fm base b w w':=by
 have hw:=h.wf.bind am an nd
 have hp:=h.wf.pos
 have hl:=h.wf.le
 unfold T.bind T.bindN at *
 by_cases hz:bindE t.es am an=0
 ·rw [if_pos hz] at hw ⊢
  rw [if_pos hz,hz]
  exact (bind_yes base b t.rt t.md am an nd t.es w h.ls (by omega) (by omega) hz).mono fun _ _ ⟨h1,h2,h3⟩=>⟨h1,⟨h2,hw⟩,h3⟩
 ·rw [if_neg hz] at hw ⊢
  rw [if_neg hz]
  exact (bind_no base b t.rt t.md am an nd _ t.es w h.ls (by omega) rfl hz).mono fun _ _ ⟨h1,h2⟩=>⟨h1,⟨h.ls.below h2,hw⟩,Fm.of_below h2 h.ls.base_le⟩
theorem unbind_Q (h:Tq B base w b t) (m:Int) :
  Calls Tryz.prog 99 #[.pointer (some ⟨b,0,none⟩),I m] w fun e w'=>e=.returned (I (unbE t.es m))∧Tq B base w' b (t.unbind m)∧Fm base b w w':=by
 have hw:=h.wf.unbind m
 have hl:=h.wf.le
 unfold T.unbind at *
 by_cases hz:unbE t.es m=0
 ·rw [if_pos hz] at hw ⊢
  rw [hz]
  exact (unbind_yes base b t.rt t.md m t.es w h.ls (by omega) h.wf.rise hz).mono fun _ _ ⟨h1,h2,h3⟩=>⟨h1,⟨h2,hw⟩,h3⟩
 ·rw [if_neg hz] at hw ⊢
  exact (unbind_no base b t.rt t.md m _ t.es w h.ls (by omega) rfl hz).mono fun _ _ ⟨h1,h2⟩=>⟨h1,⟨h.ls.below h2,hw⟩,Fm.of_below h2 h.ls.base_le⟩
theorem down_Q (h:Tq B base w b t) (m n:Int) :
  Calls Tryz.prog 38 #[.pointer (some ⟨b,0,none⟩),pv m n] w fun e w'=>e=.returned (pv (down t.md t.es m n).1 (down t.md t.es m n).2)∧Below w.heap.size w w' :=
 down_any base b t.rt t.md m n t.es w h.ls (by have:=h.wf.le;omega) h.wf.eld
end
attribute [local go_sem ↓] Go.wp_at_zero Go.wp_at_succ
structure Rm where
 am:Int
 an:Int
 nd:Int
 lv:Bool
def rrow (p:Rm):List Value:=[I p.am,I p.an,I p.nd,.bool p.lv]
theorem rrow_length (p:Rm):(rrow p).length=4:=rfl
theorem rrows_at (es:List Rm) (i:Nat) (p:Rm) (h:es[i]?=some p):(rowsOf rrow es)[i * 4]?=some (I p.am)∧(rowsOf rrow es)[i * 4 + 1]?=some (I p.an)∧(rowsOf rrow es)[i * 4 + 2]?=some (I p.nd)∧(rowsOf rrow es)[i * 4 + 3]?=some (.bool p.lv):=by
 have e0:=rowsOf_get rrow 4 rrow_length es i 0 p h (by omega)
 have e1:=rowsOf_get rrow 4 rrow_length es i 1 p h (by omega)
 have e2:=rowsOf_get rrow 4 rrow_length es i 2 p h (by omega)
 have e3:=rowsOf_get rrow 4 rrow_length es i 3 p h (by omega)
 rw [show i * 4=4 * i + 0 by omega,show 4 * i + 0 + 1=4 * i + 1 by omega,show 4 * i + 0 + 2=4 * i + 2 by omega,show 4 * i + 0 + 3=4 * i + 3 by omega]
 exact ⟨e0,e1,e2,e3⟩
structure Rs (base:Nat) (W:World) (b:Nat) (rs:List Rm):Prop where
 hb:∃ a cap,W.heap[b]?=some (.cells #[.slice a rs.length cap] 226)∧W.ownsRow base 223 4 (.slice a rs.length cap) rs.length (rowsOf rrow rs)
 kb:base≤b
 ne:rs≠[]
section
variable {base:Nat} {W W':World} {b:Nat} {rs:List Rm}
theorem Rs.lt (h:Rs base W b rs):b < W.heap.size:=by
 obtain ⟨a,cap,h1,_⟩:=h.hb
 exact lt_of_heap h1
theorem Rs.keep (h:Rs base W b rs) (hk:∀ (k:Nat) (cur:Array Value) (t:TypeId),W.heap[k]?=some (.cells cur t (0,0))→(k=b ∨ t=223)→W'.heap[k]?=W.heap[k]?):Rs base W' b rs:=by
 obtain ⟨a,cap,h1,h2⟩:=h.hb
 exact ⟨⟨a,cap,(hk b _ _ h1 (.inl rfl)).trans h1,own_keep h2 fun k cur hc=>hk k cur 223 hc (.inr rfl)⟩,h.kb,h.ne⟩
theorem Rs.below (h:Rs base W b rs) (g:Below W.heap.size W W'):Rs base W' b rs:=h.keep fun k _ _ hk _=>g.block k (lt_of_heap hk)
theorem Rs.len (h:Rs base W b rs):0 < rs.length:=List.length_pos_iff.2 h.ne
theorem Rs.cells (h:Rs base W b rs):∃ g cap,W.cell? ⟨b,0,none⟩=some (.slice (some ⟨g,0,none⟩) rs.length cap)∧(∀ i,W.frozen? ⟨b,i,none⟩=false)∧(∀ j,W.frozen? ⟨g,j,none⟩=false)∧g < W.heap.size ∧
  ∀ (i:Nat) (p:Rm),rs[i]?=some p→W.cell? ⟨g,i * 4,none⟩=some (I p.am)∧W.cell? ⟨g,i * 4 + 1,none⟩=some (I p.an)∧W.cell? ⟨g,i * 4 + 2,none⟩=some (I p.nd)∧W.cell? ⟨g,i * 4 + 3,none⟩=some (.bool p.lv):=by
 obtain ⟨a,cap,h1,h2⟩:=h.hb
 obtain ⟨g,cap',cur,e1,_,hg,_,_,_,hx⟩:=own_open h2 (by have:=h.len;omega)
 simp only [Value.slice.injEq] at e1
 obtain ⟨rfl,-,-⟩:=e1
 refine ⟨g,cap,by rw [cell_of h1];rfl,frozen_of h1,frozen_of hg,lt_of_heap hg,fun i p hi=>?_⟩
 obtain ⟨p0,p1,p2,p3⟩:=rrows_at rs i p hi
 exact ⟨hx _ _ p0,hx _ _ p1,hx _ _ p2,hx _ _ p3⟩
end
def rIs (rs:List Rm) (m:Int):Bool:=decide (0≤m) && (match rs[m.toNat]? with | some p=>p.lv | none=>false)
theorem ris_any (base b:Nat) (rs:List Rm) (m:Int) (w:World) (h:Rs base w b rs) :
  Calls Tryz.prog 155 #[.pointer (some ⟨b,0,none⟩),I m] w fun e w'=>e=.returned (.bool (rIs rs m))∧w'=w:=by
 obtain ⟨g,cap,c0,_,_,_,hc⟩:=h.cells
 have hlen:=h.len
 by_cases h0:0≤m
 ·obtain ⟨j,rfl⟩:∃ j:Nat,m=(j:Int):=⟨m.toNat,by omega⟩
  by_cases hj:j < rs.length
  ·obtain ⟨p,hp⟩:∃ p,rs[j]?=some p:=⟨_,List.getElem?_eq_getElem hj⟩
   obtain ⟨_,_,_,d3⟩:=hc j p hp
   have HR:Hid (rIs rs (j:Int)=p.lv):=by simp [Hid,rIs,hp]
   have j1:(j:Int) < (rs.length:Int):=by omega
   obtain ⟨lv,hlv⟩:∃ lv,lv=p.lv:=⟨_,rfl⟩
   rw [← hlv] at d3 HR
   clear hc hp hlv h
   generalize rs.length=n at *
   go_enter Tryz.func155,Tryz.ntmps155
   go_wp2_with fail
   go_ret
   exact ⟨by rw [unhide HR];rfl,rfl⟩
  ·have HR:Hid (rIs rs (j:Int)=false):=by
    simp only [Hid,rIs,Int.toNat_natCast,List.getElem?_eq_none (Nat.le_of_not_lt hj)];simp
   have j1:¬ (j:Int) < (rs.length:Int):=by omega
   clear hc h
   generalize rs.length=n at *
   go_enter Tryz.func155,Tryz.ntmps155
   go_wp2_with fail
   go_ret
   exact ⟨by rw [unhide HR];rfl,rfl⟩
 ·have HR:Hid (rIs rs m=false):=by simp [Hid,rIs,h0]
  clear hc h
  go_enter Tryz.func155,Tryz.ntmps155
  go_wp2_with fail
  go_ret
  exact ⟨by rw [unhide HR];rfl,rfl⟩
attribute [local go_sem ↓] Go.wp_at_zero Go.wp_at_succ
def Ov (rs:List Rm) (P:Rm→Bool) (r:Int):Prop :=
 (r=-1∧∀ i p,1≤i→rs[i]?=some p→P p=false) ∨ ∃ (k:Nat) (p:Rm),r=(k:Int)∧1≤k∧rs[k]?=some p∧P p=true
def lvAt (m n:Int):Rm→Bool:=fun p=>p.lv && decide (p.am=m∧p.an=n)
theorem over_any (base b:Nat) (rs:List Rm) (m n:Int) (w:World) (h:Rs base w b rs) (hl:rs.length≤1000) :
  Calls Tryz.prog 159 #[.pointer (some ⟨b,0,none⟩),pv m n] w fun e w'=>(∃ r,Ov rs (lvAt m n) r∧e=.returned (I r))∧Below w.heap.size w w':=by
 have hlen:=h.len
 obtain ⟨V,hV,hs,hx,hb⟩:∃ V,w.alloc (.cells #[I m,I n] 50)=V∧V.heap.size=w.heap.size + 1∧V.heap[w.heap.size]?=some (.cells #[I m,I n] 50)∧Below w.heap.size w V:=⟨_,rfl,by simp,putAll _ _ rfl,below_alloc _ _⟩
 have HR:=hide (h.below hb)
 have HX:=hide hx
 have HB:=hide hb
 obtain ⟨N,hN⟩:∃ N,N=rs.length:=⟨_,rfl⟩
 have HN:=hide hN
 rw [← hN] at hl hlen
 clear h hb hx hN
 unfold pv
 go_enter Tryz.func159,Tryz.ntmps159
 go_wp2_with fail
 go_loopw [5] (fun v wr=>∃ k:Nat,v=I k∧1≤k∧k≤N∧(∀ i p,1≤i→i < k→rs[i]?=some p→lvAt m n p=false)∧Below V.heap.size V wr) (fun v _=>N - (intOf v).toNat)
 case atStart=>exact ⟨1,rfl,Nat.le_refl _,by omega,fun i p h1 h2=>by omega,Below.refl _ _⟩
 case round =>
  obtain ⟨k,rfl,hk1,hk,hno,hbr⟩:=hrel
  have hR:=(unhide HR).below hbr
  obtain ⟨g,cap,c0,_,_,_,hc⟩:=hR.cells
  rw [← unhide HN] at c0
  obtain ⟨p0,p1⟩:=cells2 ((hbr.block w.heap.size (by omega)).trans (unhide HX))
  have HBR:=hide hbr
  by_cases hkn:k < N
  ·obtain ⟨p,hp⟩:∃ p,rs[k]?=some p:=⟨_,List.getElem?_eq_getElem (by have:=unhide HN;omega)⟩
   obtain ⟨d0,d1,d2,d3⟩:=hc k p hp
   have j1:(k:Int) < (N:Int):=by omega
   have j0:(0:Int)≤(k:Int):=by omega
   have HP:=hide hp
   have HNO:=hide hno
   clear hR hc hp hno hbr
   obtain ⟨am,an,nd,lv⟩:=p
   simp only [] at d0 d1 d2 d3
   by_cases hP:lv=true∧am=m∧an=n
   ·obtain ⟨rfl,rfl,rfl⟩:=hP
    go_wp2_with fail
    go_quiet (fail)
    go_wp2_with fail
    go_ret
    exact ⟨⟨_,.inr ⟨k,_,rfl,hk1,unhide HP,by simp [lvAt]⟩,rfl⟩,(unhide HB).trans ((below_dn (unhide HBR) _).mono (by omega))⟩
   ·have HPf:Hid (lvAt m n ⟨am,an,nd,lv⟩=false):=by
     cases lv <;> simp_all [Hid,lvAt]
    have HREL:Hid (∀ i p,1≤i→i < k + 1→rs[i]?=some p→lvAt m n p=false):=by
     intro i q h1 h2 h3
     by_cases e:i=k
     ·subst e
      rw [unhide HP] at h3
      cases h3
      exact unhide HPf
     ·exact unhide HNO i q h1 (by omega) h3
    clear HPf HNO HP
    cases lv with
    | false =>
     clear hP
     go_wp2_with fail
     go_quiet (fail)
     go_wp2_with fail
     go_roundw
     case rel=>exact ⟨k + 1,by go_num,by omega,by omega,unhide HREL,below_dn (unhide HBR) _⟩
     case measure=>simp [intOf];omega
    | true =>
     by_cases e1:am=m
     ·have e2:¬ an=n:=fun e=>hP ⟨rfl,e1,e⟩
      subst e1
      clear hP
      go_wp2_with fail
      go_quiet (fail)
      go_wp2_with fail
      go_roundw
      case rel=>exact ⟨k + 1,by go_num,by omega,by omega,unhide HREL,below_dn (unhide HBR) _⟩
      case measure=>simp [intOf];omega
     ·clear hP
      go_wp2_with fail
      go_quiet (fail)
      go_wp2_with fail
      go_roundw
      case rel=>exact ⟨k + 1,by go_num,by omega,by omega,unhide HREL,below_dn (unhide HBR) _⟩
      case measure=>simp [intOf];omega
  ·obtain rfl:k=N:=by omega
   have HNO:=hide hno
   clear hR hc hno hbr
   go_wp2_with fail
   go_ret
   refine ⟨⟨_,.inl ⟨rfl,fun i p h1 h2=>unhide HNO i p h1 ?_ h2⟩,rfl⟩,(unhide HB).trans ((unhide HBR).mono (by omega))⟩
   have:=(List.getElem?_eq_some_iff.1 h2).1
   have:=unhide HN
   omega
attribute [local go_sem ↓] Go.wp_at_zero Go.wp_at_succ
def rNd (rs:List Rm) (m:Int):Int:=match rs[m.toNat]? with | some p=>p.nd | none=>0
theorem rroot_any (base b:Nat) (rs:List Rm) (m:Int) (w:World) (h:Rs base w b rs) :
  Calls Tryz.prog 107 #[.pointer (some ⟨b,0,none⟩),I m] w fun e w'=>e=.returned (.tuple #[I (if rIs rs m then rNd rs m else 0),.bool (rIs rs m)])∧w'=w:=by
 have HI:=hide (ris_any base b rs m w h)
 obtain ⟨g,cap,c0,_,_,_,hc⟩:=h.cells
 cases hi:rIs rs m with
 | false =>
  rw [hi] at HI
  clear hc h hi
  simp only [Bool.false_eq_true,if_false]
  go_enter Tryz.func107,Tryz.ntmps107
  go_wp2_with fail
  refine (unhide HI).mono ?_
  rintro e w' ⟨rfl,hw'⟩
  rw [hw']
  clear hw' HI
  go_wp2_with fail
  go_ret2
  exact ⟨rfl,rfl⟩
 | true =>
  rw [hi] at HI
  have h0:0≤m:=by
   simp [rIs] at hi
   exact hi.1
  obtain ⟨j,rfl⟩:∃ j:Nat,m=(j:Int):=⟨m.toNat,by omega⟩
  obtain ⟨p,hp⟩:∃ p,rs[j]?=some p:=by
   cases hq:rs[j]? with
   | none=>simp [rIs,hq] at hi
   | some p=>exact ⟨p,rfl⟩
  obtain ⟨_,_,d2,_⟩:=hc j p hp
  have hj:=(List.getElem?_eq_some_iff.1 hp).1
  have j1:(j:Int) < (rs.length:Int):=by omega
  have en:rNd rs (j:Int)=p.nd:=by simp [rNd,hp]
  rw [en]
  simp only [if_true]
  generalize p.nd=nd at *
  clear hc h hi hp en hj
  generalize rs.length=N at *
  go_enter Tryz.func107,Tryz.ntmps107
  go_wp2_with fail
  refine (unhide HI).mono ?_
  rintro e w' ⟨rfl,hw'⟩
  rw [hw']
  clear hw' HI
  go_wp2_with fail
  go_ret2
  exact ⟨rfl,rfl⟩
def nums (rs:List Rm) (P:Rm→Bool) (lo k:Nat):List Int:=((List.range k).filter fun i=>decide (lo≤i) && (match rs[i]? with | some p=>P p | none=>false)).map (fun (i:Nat)=>(i:Int))
theorem nums_yes {rs:List Rm} {P:Rm→Bool} {lo k:Nat} {p:Rm} (h:rs[k]?=some p) (hl:lo≤k) (hp:P p=true):nums rs P lo (k + 1)=nums rs P lo k ++ [(k:Int)]:=by
 rw [nums,nums,List.range_succ,List.filter_append,List.map_append]
 simp [h,hl,hp]
theorem nums_no {rs:List Rm} {P:Rm→Bool} {lo k:Nat} {p:Rm} (h:rs[k]?=some p) (hp:P p=false):nums rs P lo (k + 1)=nums rs P lo k:=by
 rw [nums,nums,List.range_succ,List.filter_append,List.map_append]
 simp [h,hp]
theorem nums_len (rs:List Rm) (P:Rm→Bool) (lo k:Nat):(nums rs P lo k).length≤k:=by
 have:=List.length_filter_le (fun i=>decide (lo≤i) && (match rs[i]? with | some p=>P p | none=>false)) (List.range k)
 simp [nums] at this ⊢
 omega
theorem nums_zero (rs:List Rm) (P:Rm→Bool) (lo:Nat):nums rs P lo lo=[]:=by
 rw [nums,List.map_eq_nil_iff,List.filter_eq_nil_iff]
 intro i hi
 rw [List.mem_range] at hi
 simp;omega
def lvAll:Rm→Bool:=fun p=>p.lv
def lvIn (m:Int):Rm→Bool:=fun p=>p.lv && decide (p.am=m)
theorem rlist_any (base b:Nat) (rs:List Rm) (w:World) (h:Rs base w b rs) (hl:rs.length≤1000) :
  Calls Tryz.prog 114 #[.pointer (some ⟨b,0,none⟩)] w fun e w'=>∃ v,e=.returned v∧w'.ownsRow w.heap.size 3 1 v (nums rs lvAll 0 rs.length).length (ints (nums rs lvAll 0 rs.length))∧Below w.heap.size w w':=by
 have hlen:=h.len
 obtain ⟨i0,hi,hz0,hz1,hz2⟩:=info_parts info3
 obtain ⟨N,hN⟩:∃ N,N=rs.length:=⟨_,rfl⟩
 have HN:=hide hN
 rw [← hN] at hl hlen ⊢
 have HR:=hide h
 clear h hN
 go_enter Tryz.func114,Tryz.ntmps114
 go_wp2_with fail
 go_loopw [3,4] (fun vo v wr=>∃ k:Nat,v=I k∧0≤k∧k≤N∧wr.ownsRow w.heap.size 3 1 vo (nums rs lvAll 0 k).length (ints (nums rs lvAll 0 k))∧Below w.heap.size w wr) (fun _ v _=>N - (intOf v).toNat)
 case atStart=>exact ⟨0,rfl,Nat.le_refl _,by omega,by rw [nums_zero];exact World.ownsRow_nil _ _ _ _,Below.refl _ _⟩
 case round =>
  obtain ⟨k,rfl,hk1,hk,own,hbr⟩:=hrel
  have hR:=(unhide HR).below hbr
  obtain ⟨g,cap,c0,_,_,_,hc⟩:=hR.cells
  rw [← unhide HN] at c0
  have hs4:=hbr.size
  by_cases hkn:k < N
  ·obtain ⟨p,hp⟩:∃ p,rs[k]?=some p:=⟨_,List.getElem?_eq_getElem (by have:=unhide HN;omega)⟩
   obtain ⟨d0,d1,d2,d3⟩:=hc k p hp
   have j1:(k:Int) < (N:Int):=by omega
   have j0:(0:Int)≤(k:Int):=by omega
   have hil:=nums_len rs lvAll 0 k
   cases hP:lvAll p with
   | true =>
    have own5:=own_keep (W':=wr.alloc (.cells #[I (k:Int)] 3)) own (fun k cur hc=>Below.heap_alloc wr _ _ (lt_of_heap hc))
    obtain ⟨v',W5,hrun,own6,hgr,-,-⟩:=run_append_own_at (P:=Tryz.prog) (wr.alloc (.cells #[I (k:Int)] 3)) w.heap.size 72 72 3 i0 (I 0) 1 8 Tryz.underlying72 hi hz0 hz1 hz2 rfl (by decide) _ _ _ own5 ⟨wr.heap.size,0,none⟩ 1 1 [I (k:Int)] rfl (cell_one_new wr _ _) (by intro u hu;simp at hu;subst hu;rfl) (by unfold maxLen;omega) (by omega) (by simp;omega)
    have hb5:=below_grown (hbr.alloc hbr.size _) own5 hgr (by simp;omega)
    have HREL:=hide (⟨k + 1,by go_num,by omega,by omega,by rw [nums_yes hp hk1 hP,List.length_append];simpa [ints] using own6,hb5⟩:∃ k':Nat,I ((k:Int) + 1)=I (k':Int)∧0≤k'∧k'≤N∧W5.ownsRow w.heap.size 3 1 v' (nums rs lvAll 0 k').length (ints (nums rs lvAll 0 k'))∧Below w.heap.size w W5)
    obtain ⟨q',cp,rfl⟩:=own_form own6
    rw [show p.lv=true from hP] at d3
    clear own own5 own6 hgr hb5 hR hc hp hil
    go_wp2_with (at_builtin;refine wpList_append_eq rfl _ _ 72 rfl 72 rfl _ _ rfl rfl _ _ hrun ?_)
    go_roundw
    case rel=>exact unhide HREL
    case measure=>simp [intOf];omega
   | false =>
    have HREL:=hide (⟨k + 1,by go_num,by omega,by omega,by rw [nums_no hp hP];exact own,hbr⟩:∃ k':Nat,I ((k:Int) + 1)=I (k':Int)∧0≤k'∧k'≤N∧wr.ownsRow w.heap.size 3 1 _ (nums rs lvAll 0 k').length (ints (nums rs lvAll 0 k'))∧Below w.heap.size w wr)
    rw [show p.lv=false from hP] at d3
    clear own hR hc hp hil
    go_wp2_with fail
    go_roundw
    case rel=>exact unhide HREL
    case measure=>simp [intOf];omega
  ·obtain rfl:k=N:=by omega
   have HO:=hide own
   have HB:=hide hbr
   clear hR hc own hbr
   go_wp2_with fail
   go_ret
   exact ⟨_,rfl,unhide HO,unhide HB⟩
theorem rabove_any (base b:Nat) (rs:List Rm) (m:Int) (w:World) (h:Rs base w b rs) (hl:rs.length≤1000) :
  Calls Tryz.prog 156 #[.pointer (some ⟨b,0,none⟩),I m] w fun e w'=>∃ v,e=.returned v∧w'.ownsRow w.heap.size 3 1 v (nums rs (lvIn m) 1 rs.length).length (ints (nums rs (lvIn m) 1 rs.length))∧Below w.heap.size w w':=by
 have hlen:=h.len
 obtain ⟨i0,hi,hz0,hz1,hz2⟩:=info_parts info3
 obtain ⟨N,hN⟩:∃ N,N=rs.length:=⟨_,rfl⟩
 have HN:=hide hN
 rw [← hN] at hl hlen ⊢
 have HR:=hide h
 clear h hN
 go_enter Tryz.func156,Tryz.ntmps156
 go_wp2_with fail
 go_loopw [5,6] (fun vo v wr=>∃ k:Nat,v=I k∧1≤k∧k≤N∧wr.ownsRow w.heap.size 3 1 vo (nums rs (lvIn m) 1 k).length (ints (nums rs (lvIn m) 1 k))∧Below w.heap.size w wr) (fun _ v _=>N - (intOf v).toNat)
 case atStart=>exact ⟨1,rfl,Nat.le_refl _,by omega,by rw [nums_zero];exact World.ownsRow_nil _ _ _ _,Below.refl _ _⟩
 case round =>
  obtain ⟨k,rfl,hk1,hk,own,hbr⟩:=hrel
  have hR:=(unhide HR).below hbr
  obtain ⟨g,cap,c0,_,_,_,hc⟩:=hR.cells
  rw [← unhide HN] at c0
  have hs4:=hbr.size
  by_cases hkn:k < N
  ·obtain ⟨p,hp⟩:∃ p,rs[k]?=some p:=⟨_,List.getElem?_eq_getElem (by have:=unhide HN;omega)⟩
   obtain ⟨d0,d1,d2,d3⟩:=hc k p hp
   have j1:(k:Int) < (N:Int):=by omega
   have j0:(0:Int)≤(k:Int):=by omega
   have hil:=nums_len rs (lvIn m) 1 k
   cases hP:(lvIn m) p with
   | true =>
    have own5:=own_keep (W':=wr.alloc (.cells #[I (k:Int)] 3)) own (fun k cur hc=>Below.heap_alloc wr _ _ (lt_of_heap hc))
    obtain ⟨v',W5,hrun,own6,hgr,-,-⟩:=run_append_own_at (P:=Tryz.prog) (wr.alloc (.cells #[I (k:Int)] 3)) w.heap.size 72 72 3 i0 (I 0) 1 8 Tryz.underlying72 hi hz0 hz1 hz2 rfl (by decide) _ _ _ own5 ⟨wr.heap.size,0,none⟩ 1 1 [I (k:Int)] rfl (cell_one_new wr _ _) (by intro u hu;simp at hu;subst hu;rfl) (by unfold maxLen;omega) (by omega) (by simp;omega)
    have hb5:=below_grown (hbr.alloc hbr.size _) own5 hgr (by simp;omega)
    have HREL:=hide (⟨k + 1,by go_num,by omega,by omega,by rw [nums_yes hp hk1 hP,List.length_append];simpa [ints] using own6,hb5⟩:∃ k':Nat,I ((k:Int) + 1)=I (k':Int)∧1≤k'∧k'≤N∧W5.ownsRow w.heap.size 3 1 v' (nums rs (lvIn m) 1 k').length (ints (nums rs (lvIn m) 1 k'))∧Below w.heap.size w W5)
    obtain ⟨q',cp,rfl⟩:=own_form own6
    have hq:p.lv=true∧p.am=m:=by simpa [lvIn] using hP
    rw [hq.1] at d3
    have hm:=hq.2
    rw [hm] at d0
    clear hm hq
    clear own own5 own6 hgr hb5 hR hc hp hil
    go_wp2_with (at_builtin;refine wpList_append_eq rfl _ _ 72 rfl 72 rfl _ _ rfl rfl _ _ hrun ?_)
    go_roundw
    case rel=>exact unhide HREL
    case measure=>simp [intOf];omega
   | false =>
    have HREL:=hide (⟨k + 1,by go_num,by omega,by omega,by rw [nums_no hp hP];exact own,hbr⟩:∃ k':Nat,I ((k:Int) + 1)=I (k':Int)∧1≤k'∧k'≤N∧wr.ownsRow w.heap.size 3 1 _ (nums rs (lvIn m) 1 k').length (ints (nums rs (lvIn m) 1 k'))∧Below w.heap.size w wr)
    cases hv:p.lv with
    | false =>
     rw [hv] at d3
     clear own hR hc hp hil hP
     go_wp2_with fail
     go_roundw
     case rel=>exact unhide HREL
     case measure=>simp [intOf];omega
    | true =>
     rw [hv] at d3
     have hm:¬ p.am=m:=by simpa [lvIn,hv] using hP
     clear own hR hc hp hil hP
     go_wp2_with fail
     go_roundw
     case rel=>exact unhide HREL
     case measure=>simp [intOf];omega
  ·obtain rfl:k=N:=by omega
   have HO:=hide own
   have HB:=hide hbr
   clear hR hc own hbr
   go_wp2_with fail
   go_ret
   exact ⟨_,rfl,unhide HO,unhide HB⟩
theorem abv_nil {es:Ents} {m:Int}:(abv es m).length=0 ↔ any es (isM m)=false:=by
 rw [any_false,abv,List.length_map,List.length_eq_zero_iff,List.filter_eq_nil_iff]
 simp
theorem unb_ok {B:Int} {t:T} (h:Wf B t) (m:Int):unbE t.es m=0 ↔ (m≠0∧rootIs t.es m=true∧(abv t.es m).length=0):=by
 rw [abv_nil]
 constructor
 ·intro hz
  obtain ⟨h1,h2⟩:=unbE_zero hz
  obtain ⟨p,hp,he⟩:=any_iff.1 h1
  have hn:=h.num p hp
  simp [isN] at he
  exact ⟨by omega,by rw [rootIs,if_neg (by omega),h1],h2⟩
 ·rintro ⟨h0,h1,h2⟩
  rw [rootIs,if_neg h0] at h1
  simp [unbE,h1,h2]
theorem unb_same {t:T} {m:Int} (hz:unbE t.es m≠0):t.unbind m=t:=by rw [T.unbind,if_neg hz]
theorem bind_same {t:T} {am an nd:Int} (hz:bindE t.es am an≠0):t.bind am an nd=t:=by rw [T.bind,if_neg hz]
def sm (t:T) (i:Nat):Nat:=(((lst t.es).take i).map fun k=>(abv t.es k).length).sum
end Go.Proofs.YtlngeaacjbdmhaaGreat.Mt
