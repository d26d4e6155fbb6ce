/-
 Both tables side by side,as plain data.
-/
import Derived.Test.YtlngeaacjbdmhaaGreatPp24
import Derived.Deep.RegionLaw
import Derived.Deep.CutRange
import Derived.Test.YtlngeaacjbdmhaaGreatPp15
import Derived.Test.YtlngeaacjbdmhaaGreatPp22
import Derived.Test.YtlngeaacjbdmhaaGreatPp14
set_option maxRecDepth 100000
set_option maxHeartbeats 1000000
namespace Go.Proofs.YtlngeaacjbdmhaaGreat.Mt
open Go.RowKit
structure RT (t:T) (rs:List Rm):Prop where
 len:(rs.length:Int)=t.md + 1
 zero:rs[0]?=some ⟨0,0,t.rt,true⟩
 live:∀ p ∈ t.es,rs[p.n.toNat]?=some ⟨p.am,p.an,p.top,true⟩
 only:∀ (i:Nat) (q:Rm),1≤i→rs[i]?=some q→q.lv=true→∃ p ∈ t.es,p.n=(i:Int)
section
variable {B:Int} {t:T} {rs:List Rm}
theorem RT.new (r:Int):RT ⟨r,0,[]⟩ [⟨0,0,r,true⟩]:=by
 refine ⟨by simp,rfl,by simp,fun i q h1 h2=>?_⟩
 have:=(List.getElem?_eq_some_iff.1 h2).1
 simp at this
 omega
theorem RT.is (h:RT t rs) (hw:Wf B t) (m:Int):rIs rs m=rootIs t.es m:=by
 unfold rootIs
 by_cases h0:m=0
 ·subst h0
  simp [rIs,h.zero]
 ·rw [if_neg h0]
  cases ha:any t.es (isN m) with
  | true =>
   obtain ⟨p,hp,he⟩:=any_iff.1 ha
   simp [isN] at he
   have h1:=h.live p hp
   have h2:=hw.num p hp
   rw [he] at h1
   simp [rIs,h1]
   omega
  | false =>
   unfold rIs
   by_cases hm:0≤m
   ·cases hq:rs[m.toNat]? with
    | none=>simp
    | some q =>
     cases hl:q.lv with
     | false=>simp [hl]
     | true =>
      obtain ⟨p,hp,he⟩:=h.only m.toNat q (by omega) hq hl
      have:=any_false.1 ha p hp
      simp [isN] at this
      omega
   ·simp [hm]
theorem RT.over (h:RT t rs) (hw:Wf B t) {m n r:Int} (ho:Ov rs (lvAt m n) r):r=if any t.es (isAt m n) then (fst t.es (isAt m n)).n else -1:=by
 cases ha:any t.es (isAt m n) with
 | true =>
  obtain ⟨f1,f2⟩:=fst_mem ha
  simp only [isAt,decide_eq_true_eq] at f2
  have hl:=h.live _ f1
  have hn:=hw.num _ f1
  simp only [if_true]
  rcases ho with ⟨rfl,hno⟩ | ⟨k,q,rfl,hk,hq,hP⟩
  ·have:=hno _ _ (by omega) hl
   simp [lvAt,f2.1,f2.2] at this
  ·simp only [lvAt,Bool.and_eq_true,decide_eq_true_eq] at hP
   obtain ⟨p,hp,he⟩:=h.only k q hk hq hP.1
   have h2:=h.live p hp
   rw [he,Int.toNat_natCast,hq] at h2
   cases h2
   simp only [] at hP
   have:p=fst t.es (isAt m n):=by
    refine Classical.byContradiction fun hne=>?_
    have hpw:=hw.one
    rcases List.mem_iff_getElem.1 hp with ⟨i,hi,ei⟩
    rcases List.mem_iff_getElem.1 f1 with ⟨j,hj,ej⟩
    rcases Nat.lt_trichotomy i j with hij | hij | hij
    ·have:=List.pairwise_iff_getElem.1 hpw i j hi hj hij
     rw [ei,ej] at this
     exact this ⟨hP.2.1.trans f2.1.symm,hP.2.2.trans f2.2.symm⟩
    ·subst hij
     exact hne (ei.symm.trans ej)
    ·have:=List.pairwise_iff_getElem.1 hpw j i hj hi hij
     rw [ei,ej] at this
     exact this ⟨f2.1.trans hP.2.1.symm,f2.2.trans hP.2.2.symm⟩
   rw [← this]
   exact he.symm
 | false =>
  simp only [Bool.false_eq_true,if_false]
  rcases ho with ⟨rfl,hno⟩ | ⟨k,q,rfl,hk,hq,hP⟩
  ·rfl
  ·simp only [lvAt,Bool.and_eq_true,decide_eq_true_eq] at hP
   obtain ⟨p,hp,he⟩:=h.only k q hk hq hP.1
   have h2:=h.live p hp
   rw [he,Int.toNat_natCast,hq] at h2
   cases h2
   have:=any_false.1 ha p hp
   simp only [isAt,decide_eq_false_iff_not] at this
   exact absurd hP.2 this
theorem RT.root (h:RT t rs) (hw:Wf B t) (m:Int):(if rIs rs m then rNd rs m else 0)=rootTop t.rt t.es m:=by
 rw [h.is hw]
 unfold rootIs rootTop
 by_cases h0:m=0
 ·subst h0
  simp [rNd,h.zero]
 ·rw [if_neg h0,if_neg h0]
  cases ha:any t.es (isN m) with
  | true =>
   obtain ⟨f1,f2⟩:=fst_mem ha
   simp only [isN,decide_eq_true_eq] at f2
   have hl:=h.live _ f1
   rw [f2] at hl
   simp [rNd,hl]
  | false =>
   unfold any at ha
   cases hf:t.es.find? (isN m) with
   | none=>simp [fst,hf]
   | some p=>rw [hf] at ha;simp at ha
theorem rise_ext:∀ {l m:List Int},l.Pairwise (· < ·)→m.Pairwise (· < ·)→(∀ e,e ∈ l ↔ e ∈ m)→l=m
 | [],[],_,_,_=>rfl
 | [],b :: m,_,_,h=>by have:=(h b).2 (by simp);simp at this
 | a :: l,[],_,_,h=>by have:=(h a).1 (by simp);simp at this
 | a :: l,b :: m,hl,hm,h=>by
  obtain ⟨l1,l2⟩:=List.pairwise_cons.1 hl
  obtain ⟨m1,m2⟩:=List.pairwise_cons.1 hm
  have hab:a=b:=by
   rcases List.mem_cons.1 ((h a).1 (by simp)) with e | ha
   ·exact e
   ·rcases List.mem_cons.1 ((h b).2 (by simp)) with e | hb
    ·exact e.symm
    ·have:=m1 a ha;have:=l1 b hb;omega
  subst hab
  congr 1
  refine rise_ext l2 m2 fun e=>⟨fun he=>?_,fun he=>?_⟩
  ·rcases List.mem_cons.1 ((h e).1 (List.mem_cons_of_mem _ he)) with e1 | e1
   ·have:=l1 e he;omega
   ·exact e1
  ·rcases List.mem_cons.1 ((h e).2 (List.mem_cons_of_mem _ he)) with e1 | e1
   ·have:=m1 e he;omega
   ·exact e1
theorem nums_rise (rs:List Rm) (P:Rm→Bool) (lo k:Nat):(nums rs P lo k).Pairwise (· < ·):=by
 rw [nums]
 refine List.pairwise_map.2 ((List.pairwise_lt_range.filter _).imp fun h=>?_)
 omega
theorem nums_mem {rs:List Rm} {P:Rm→Bool} {lo:Nat} {x:Int}:x ∈ nums rs P lo rs.length ↔ ∃ (i:Nat) (q:Rm),x=(i:Int)∧lo≤i∧rs[i]?=some q∧P q=true:=by
 rw [nums,List.mem_map]
 constructor
 ·rintro ⟨i,hi,rfl⟩
  rw [List.mem_filter] at hi
  obtain ⟨h1,h2⟩:=hi
  simp only [Bool.and_eq_true,decide_eq_true_eq] at h2
  cases hq:rs[i]? with
  | none=>rw [hq] at h2;simp at h2
  | some q=>rw [hq] at h2;exact ⟨i,q,rfl,h2.1,hq,h2.2⟩
 ·rintro ⟨i,q,rfl,h1,h2,h3⟩
  refine ⟨i,List.mem_filter.2 ⟨List.mem_range.2 (List.getElem?_eq_some_iff.1 h2).1,?_⟩,rfl⟩
  simp [h1,h2,h3]
theorem RT.list (h:RT t rs) (hw:Wf B t):nums rs lvAll 0 rs.length=lst t.es:=by
 refine rise_ext (nums_rise _ _ _ _) ?_ fun x=>?_
 ·rw [lst]
  refine List.pairwise_cons.2 ⟨fun a ha=>?_,List.pairwise_map.2 hw.rise⟩
  obtain ⟨p,hp,rfl⟩:=List.mem_map.1 ha
  exact hw.num p hp
 ·rw [nums_mem,lst,List.mem_cons,List.mem_map]
  constructor
  ·rintro ⟨i,q,rfl,_,hq,hl⟩
   by_cases e:i=0
   ·subst e;exact .inl rfl
   ·obtain ⟨p,hp,he⟩:=h.only i q (by omega) hq hl
    exact .inr ⟨p,hp,he⟩
  ·rintro (rfl | ⟨p,hp,rfl⟩)
   ·exact ⟨0,_,rfl,Nat.le_refl _,h.zero,rfl⟩
   ·exact ⟨p.n.toNat,_,by have:=hw.num p hp;omega,Nat.zero_le _,h.live p hp,rfl⟩
theorem RT.above (h:RT t rs) (hw:Wf B t) (m:Int):nums rs (lvIn m) 1 rs.length=abv t.es m:=by
 refine rise_ext (nums_rise _ _ _ _) ?_ fun x=>?_
 ·rw [abv]
  exact List.pairwise_map.2 (hw.rise.filter _)
 ·rw [nums_mem,abv,List.mem_map]
  constructor
  ·rintro ⟨i,q,rfl,h1,hq,hP⟩
   simp only [lvIn,Bool.and_eq_true,decide_eq_true_eq] at hP
   obtain ⟨p,hp,he⟩:=h.only i q h1 hq hP.1
   have h2:=h.live p hp
   rw [he,Int.toNat_natCast,hq] at h2
   cases h2
   exact ⟨p,List.mem_filter.2 ⟨hp,by simpa [isM] using hP.2⟩,he⟩
  ·rintro ⟨p,hp,rfl⟩
   obtain ⟨hp,hm⟩:=List.mem_filter.1 hp
   have hn:=hw.num p hp
   exact ⟨p.n.toNat,_,by omega,by omega,h.live p hp,by simpa [lvIn,isM] using hm⟩
theorem RT.bind (h:RT t rs) (hw:Wf B t) {am an:Int} (nd:Int) (hz:bindE t.es am an=0):RT (t.bind am an nd) (rs ++ [⟨am,an,nd,true⟩]):=by
 have hp:=hw.pos
 have hl:=h.len
 rw [T.bind,if_pos hz]
 refine ⟨by simp;omega,?_,fun p hp'=>?_,fun i q h1 h2 h3=>?_⟩
 ·rw [List.getElem?_append_left (by omega)];exact h.zero
 ·rcases List.mem_append.1 hp' with hp' | hp'
  ·have:=(hw.eld p hp').2
   have:=hw.num p hp'
   rw [List.getElem?_append_left (by omega)]
   exact h.live p hp'
  ·simp at hp';subst hp'
   simp only []
   rw [List.getElem?_append_right (by omega),show (t.md + 1).toNat - rs.length=0 by omega]
   rfl
 ·by_cases e:i < rs.length
  ·rw [List.getElem?_append_left e] at h2
   obtain ⟨p,q1,q2⟩:=h.only i q h1 h2 h3
   exact ⟨p,List.mem_append_left _ q1,q2⟩
  ·have:=(List.getElem?_eq_some_iff.1 h2).1
   simp at this
   exact ⟨⟨t.md + 1,nd,am,an⟩,by simp,by simp only [];omega⟩
theorem RT.unb (h:RT t rs) (hw:Wf B t) {m:Int} (hz:unbE t.es m=0):∃ (j:Nat) (p:Rm),m=(j:Int)∧rs[j]?=some p∧RT (t.unbind m) (rs.set j { p with lv:=false }):=by
 obtain ⟨h1,h2⟩:=unbE_zero hz
 obtain ⟨x,hx,he⟩:=any_iff.1 h1
 simp [isN] at he
 have hn:=hw.num x hx
 have hl:=h.live x hx
 rw [he] at hl
 refine ⟨m.toNat,_,by omega,hl,?_⟩
 rw [T.unbind,if_pos hz]
 have hj:m.toNat < rs.length:=(List.getElem?_eq_some_iff.1 hl).1
 refine ⟨by simpa using h.len,?_,fun p hp=>?_,fun i q q1 q2 q3=>?_⟩
 ·rw [List.getElem?_set_ne (by omega)];exact h.zero
 ·obtain ⟨hp,hne⟩:=List.mem_filter.1 hp
  simp [isN] at hne
  have:=hw.num p hp
  rw [List.getElem?_set_ne (by omega)]
  exact h.live p hp
 ·by_cases e:i=m.toNat
  ·subst e
   rw [List.getElem?_set_self hj] at q2
   cases q2
   simp at q3
  ·rw [List.getElem?_set_ne (fun e'=>e e'.symm)] at q2
   obtain ⟨p,r1,r2⟩:=h.only i q q1 q2 q3
   refine ⟨p,List.mem_filter.2 ⟨r1,?_⟩,r2⟩
   simp [isN]
   omega
end
attribute [local go_sem ↓] Go.wp_at_zero Go.wp_at_succ
theorem infoR:(Tryz.prog.info? 223).map (fun i=>(i.zero,i.size,i.bytes))=some (some (.agg #[I 0,I 0,I 0,.bool false]),4,32):=by kernel_rfl
structure Fq (base b:Nat) (w w':World):Prop where
 os:w'.os=w.os
 tape:w'.tape=w.tape
 output:w'.output=w.output
 size:w.heap.size≤w'.heap.size
 low:∀ k,k < base→w'.heap[k]?=w.heap[k]?
 blk:∀ (k:Nat) (o:Obj),w.heap[k]?=some o→k≠b→(∀ cur,o≠.cells cur 223 (0,0))→w'.heap[k]?=some o
theorem Fq.of_below {base b:Nat} {w w':World} (h:Below w.heap.size w w') (hb:base≤w.heap.size):Fq base b w w' :=
 ⟨h.os,h.tape,h.output,h.size,fun k hk=>h.block k (by omega),fun k _ hk _ _=>(h.block k (lt_of_heap hk)).trans hk⟩
theorem Fq.trans {base b:Nat} {u v w:World} (h:Fq base b u v) (g:Fq base b v w):Fq base b u w :=
 ⟨g.os.trans h.os,g.tape.trans h.tape,g.output.trans h.output,Nat.le_trans h.size g.size,fun k hk=>(g.low k hk).trans (h.low k hk),fun k o h1 h2 h3=>g.blk k o (h.blk k o h1 h2 h3) h2 h3⟩
theorem Fq.below {base b:Nat} {w w':World} (h:Fq base b w w'):Below base w w':=⟨h.os,h.tape,h.output,h.size,h.low⟩
theorem Rs.base_le {base:Nat} {W:World} {b:Nat} {rs:List Rm} (h:Rs base W b rs):base≤W.heap.size:=by have:=h.lt;have:=h.kb;omega
theorem rnew_any (r:Int) (w:World) :
  Calls Tryz.prog 97 #[I r] w fun e w'=>e=.returned (.pointer (some ⟨w.heap.size + 1,0,none⟩))∧Rs w.heap.size w' (w.heap.size + 1) [⟨0,0,r,true⟩]∧Below w.heap.size w w':=by
 go_enter Tryz.func97,Tryz.ntmps97
 go_wp2_with fail
 go_ret
 refine ⟨rfl,⟨⟨some ⟨w.heap.size,0,none⟩,1,putAll _ _ (by simp),⟨rfl,.inr ⟨w.heap.size,1,_,rfl,Nat.le_refl _,(Below.heap_alloc _ _ _ (by simp)).trans (putAll _ _ rfl),Nat.le_refl _,by decide,rfl,rfl⟩⟩⟩,by omega,by simp⟩,((Below.refl _ w).alloc (Nat.le_refl _) _).alloc (by simp) _⟩
theorem rpush {base:Nat} {X:World} {b:Nat} {rs:List Rm} (p:Rm) (L:Rs base X b rs) (hl:rs.length≤1000) {a:Option Addr} {m cap:Nat} (a1:X.cell? ⟨b,0,none⟩=some (.slice a m cap)) :
  ∃ (a':Option Addr) (cap':Nat) (W5:World),(Builtin.append_ #[224,224] 224 #[.slice a m cap,.slice (some ⟨X.heap.size,0,none⟩) 1 1]).run Tryz.prog (X.alloc (.cells #[I p.am,I p.an,I p.nd,.bool p.lv] 223))=.ok (.slice a' (m + 1) cap') W5 ∧
   W5.cell? ⟨b,0,none⟩=some (.slice a m cap)∧W5.frozen? ⟨b,0,none⟩=false∧Rs base (W5.setCell ⟨b,0,none⟩ (.slice a' (m + 1) cap')) b (rs ++ [p])∧Fq base b X (W5.setCell ⟨b,0,none⟩ (.slice a' (m + 1) cap')):=by
 obtain ⟨i0,hi,hz0,hz1,hz2⟩:=info_parts infoR
 obtain ⟨a2,cap2,h1,own⟩:=L.hb
 have e1:X.cell? ⟨b,0,none⟩=some (.slice a2 rs.length cap2):=by rw [cell_of h1];rfl
 rw [a1] at e1
 simp only [Option.some.injEq,Value.slice.injEq] at e1
 obtain ⟨rfl,rfl,rfl⟩:=e1
 have own5:=own_keep (W':=X.alloc (.cells #[I p.am,I p.an,I p.nd,.bool p.lv] 223)) own (fun k cur hc=>Below.heap_alloc X _ _ (lt_of_heap hc))
 obtain ⟨v',W5,hrun,own7,hgr,-,-⟩:=run_append_own_at (P:=Tryz.prog) (X.alloc (.cells #[I p.am,I p.an,I p.nd,.bool p.lv] 223)) base 224 224 223 i0 _ 4 32 Tryz.underlying224 hi hz0 hz1 hz2 rfl (by decide) (.slice a rs.length cap) _ _ own5 ⟨X.heap.size,0,none⟩ 1 1 (rrow p) rfl (by
  intro j u hj
  rw [Addr.add_lit,cell_of (putAll _ _ rfl)]
  simpa [rrow] using hj) (by intro u hu;simp [rrow] at hu;rcases hu with rfl | rfl | rfl | rfl <;> rfl) (by unfold maxLen;omega) (by omega) (by simp;have:=L.base_le;omega)
 obtain ⟨a',cap',rfl⟩:=own_form own7
 have hbA:(X.alloc (.cells #[I p.am,I p.an,I p.nd,.bool p.lv] 223)).heap[b]?=some (.cells #[.slice a rs.length cap] 226):=(Below.heap_alloc _ _ _ L.lt).trans h1
 have hb5:W5.heap[b]?=some (.cells #[.slice a rs.length cap] 226):=(hgr.block b (lt_of_heap hbA) (own_ne own5 hbA (by simp))).trans hbA
 have hself:∀ j,j≠b→(W5.setCell ⟨b,0,none⟩ (.slice a' (rs.length + 1) cap')).heap[j]?=W5.heap[j]?:=fun j hj=>Below.heap_setCell _ _ _ _ hj
 refine ⟨a',cap',W5,hrun,by rw [cell_of hb5];rfl,frozen_of hb5 0,⟨⟨a',cap',?_,?_⟩,L.kb,by simp⟩,?_⟩
 ·rw [heap_set hb5];simp
 ·rw [List.length_append,rowsOf_append]
  refine own_keep own7 fun j cur hc=>hself j ?_
  rintro rfl
  rw [hb5] at hc
  simp at hc
 ·have b1:Below base X (X.alloc (.cells #[I p.am,I p.an,I p.nd,.bool p.lv] 223)):=((Below.refl _ X).alloc (Nat.le_refl _) _).mono L.base_le
  have b2:=below_grown b1 own5 hgr (by simp;have:=L.base_le;omega)
  refine ⟨b2.os,b2.tape,b2.output,by have:=b2.size;simp [World.setCell];omega,fun j hj=>(hself j (by have:=L.kb;omega)).trans (b2.block j hj),fun j o g1 g2 g3=>?_⟩
  have hkA:(X.alloc (.cells #[I p.am,I p.an,I p.nd,.bool p.lv] 223)).heap[j]?=some o:=(Below.heap_alloc _ _ _ (lt_of_heap g1)).trans g1
  rw [hself j g2,hgr.block j (lt_of_heap hkA) (own_ne own5 hkA g3),hkA]
section
variable {B:Int} {t:T} {rs:List Rm} {base b:Nat} {w:World}
theorem rbind_no (h:RT t rs) (hw:Wf B t) (hR:Rs base w b rs) (hl:rs.length≤100) (am an nd k:Int) (hk:bindE t.es am an=k) (h0:k≠0) :
  Calls Tryz.prog 149 #[.pointer (some ⟨b,0,none⟩),pv am an,I nd] w fun e w'=>e=.returned (.tuple #[I 0,I k])∧Below w.heap.size w w':=by
 obtain ⟨V,hV,hs,hx,hb⟩:∃ V,w.alloc (.cells #[I am,I an] 50)=V∧V.heap.size=w.heap.size + 1∧V.heap[w.heap.size]?=some (.cells #[I am,I an] 50)∧Below w.heap.size w V:=⟨_,rfl,by simp,putAll _ _ rfl,below_alloc _ _⟩
 obtain ⟨v0,v1⟩:=cells2 hx
 have H1:=hide (ris_any base b rs am V (hR.below hb))
 have H2:=hide (over_any base b rs am an V (hR.below hb) (by omega))
 have H3:=hide (fun W (hB:Below V.heap.size V W)=>rlist_any base b rs W ((hR.below hb).below hB) (by omega))
 have HO:=hide (fun r (ho:Ov rs (lvAt am an) r)=>h.over hw ho)
 rw [h.is hw] at H1
 rw [h.list hw] at H3
 have hlst:(lst t.es).length=1 + t.es.length:=by simp [lst];omega
 have hnum:=fun (ha:any t.es (isAt am an)=true)=>hw.num _ (fst_mem ha).1
 unfold bindE at hk
 have HB:=hide hb
 clear hR hb hx h hw
 unfold pv
 go_enter Tryz.func149,Tryz.ntmps149
 go_wp2_with fail
 refine (unhide H1).mono ?_
 rintro e w1 ⟨rfl,hw1⟩
 rw [hw1]
 clear hw1 H1
 cases hy1:rootIs t.es am with
 | false =>
  rw [hy1] at hk
  obtain rfl:1=k:=by simpa using hk
  clear H2 H3 HO hk h0 hy1 hnum
  go_wp2_with fail
  go_ret2
  exact ⟨rfl,unhide HB⟩
 | true =>
  rw [hy1] at hk
  go_wp2_with fail
  refine (unhide H2).mono ?_
  rintro e w2 ⟨⟨r,ho,rfl⟩,hB2⟩
  have hr:=unhide HO r ho
  have HB2:=hide ((unhide HB).trans (hB2.mono (by omega)))
  cases hy2:any t.es (isAt am an) with
  | true =>
   rw [hy2] at hr hk
   obtain rfl:15=k:=by simpa using hk
   have hp:(0:Int)≤r:=by simp only [if_true] at hr;rw [hr];have:=hnum hy2;omega
   clear H3 HO hk h0 hy1 hy2 hr ho hB2 hnum
   go_wp2_with fail
   go_ret2
   exact ⟨rfl,unhide HB2⟩
  | false =>
   rw [hy2] at hr hk
   obtain rfl:r=-1:=by simpa using hr
   have hl8:8≤1 + (t.es.length:Int):=by
    refine Decidable.byContradiction fun h'=>h0 ?_
    simp [h'] at hk
    exact hk.symm
   obtain rfl:13=k:=by simpa [hl8] using hk
   have H3':=hide (unhide H3 w2 hB2)
   clear H3 HO hk h0 hy1 hy2 hr ho hnum v0 v1 hV
   go_wp2_with fail
   refine (unhide H3').mono ?_
   rintro e w3 ⟨v,rfl,own,hB3⟩
   obtain ⟨a,cp,rfl⟩:=own_form own
   have HB3:=hide ((unhide HB2).trans (hB3.mono (unhide HB2).size))
   have q8:(8:Int)≤((lst t.es).length:Int):=by omega
   clear own hB3 hB2 H3'
   generalize (lst t.es).length=n at *
   go_wp2_with fail
   go_ret2
   exact ⟨rfl,unhide HB3⟩
end
attribute [local go_sem ↓] Go.wp_at_zero Go.wp_at_succ
section
variable {B:Int} {t:T} {rs:List Rm} {base b:Nat} {w W:World}
theorem rbind_yes (h:RT t rs) (hw:Wf B t) (hR:Rs base w b rs) (hl:rs.length≤100) (am an nd:Int) (hz:bindE t.es am an=0) :
  Calls Tryz.prog 149 #[.pointer (some ⟨b,0,none⟩),pv am an,I nd] w fun e w'=>e=.returned (.tuple #[I (t.md + 1),I 0])∧Rs base w' b (rs ++ [⟨am,an,nd,true⟩])∧Fq base b w w':=by
 obtain ⟨V,hV,hs,hx,hb⟩:∃ V,w.alloc (.cells #[I am,I an] 50)=V∧V.heap.size=w.heap.size + 1∧V.heap[w.heap.size]?=some (.cells #[I am,I an] 50)∧Below w.heap.size w V:=⟨_,rfl,by simp,putAll _ _ rfl,below_alloc _ _⟩
 obtain ⟨v0,v1⟩:=cells2 hx
 obtain ⟨z1,z2,z3⟩:=bindE_zero hz
 have hbase:=hR.base_le
 have H1:=hide (ris_any base b rs am V (hR.below hb))
 have H2:=hide (over_any base b rs am an V (hR.below hb) (by omega))
 have H3:=hide (fun W (hB:Below V.heap.size V W)=>rlist_any base b rs W ((hR.below hb).below hB) (by omega))
 have HR:=hide (fun W (hB:Below V.heap.size V W)=>(hR.below hb).below hB)
 have HO:=hide (fun r (ho:Ov rs (lvAt am an) r)=>h.over hw ho)
 rw [h.is hw,z1] at H1
 rw [h.list hw] at H3
 rw [z2] at HO
 have hlst:(lst t.es).length=1 + t.es.length:=by simp [lst];omega
 have HLen:=hide h.len
 have HB:=hide hb
 have HX:=hide hx
 obtain ⟨md1,hmd1⟩:∃ md1,md1=t.md + 1:=⟨_,rfl⟩
 rw [← hmd1] at HLen ⊢
 clear hR hb hx h hw z1 z2 hz hmd1
 unfold pv
 go_enter Tryz.func149,Tryz.ntmps149
 go_wp2_with fail
 refine (unhide H1).mono ?_
 rintro e w1 ⟨rfl,hw1⟩
 rw [hw1]
 clear hw1 H1
 go_wp2_with fail
 refine (unhide H2).mono ?_
 rintro e w2 ⟨⟨r,ho,rfl⟩,hB2⟩
 obtain rfl:r=-1:=by simpa using unhide HO r ho
 have H3':=hide (unhide H3 w2 hB2)
 have HB2:=hide hB2
 clear H3 HO ho v0 v1 hV hB2 H2
 go_wp2_with fail
 refine (unhide H3').mono ?_
 rintro e w3 ⟨v,rfl,own,hB3⟩
 obtain ⟨a0,cp0,rfl⟩:=own_form own
 have hBV:=(unhide HB2).trans (hB3.mono (unhide HB2).size)
 have LX:=unhide HR w3 hBV
 have qX:=(hBV.block w.heap.size (by omega)).trans (unhide HX)
 have FX:Fq base b w w3:=Fq.of_below ((unhide HB).trans (hBV.mono (by omega))) hbase
 have q8:¬ (8:Int)≤((lst t.es).length:Int):=by omega
 obtain ⟨g,cap,c0,cf,_,_,_⟩:=LX.cells
 obtain ⟨a5,cap5,W5,hrun,d0,df,L5,F5⟩:=rpush ⟨am,an,nd,true⟩ (LX.below (W':=w3.drew) ⟨rfl,rfl,rfl,Nat.le_refl _,fun _ _=>rfl⟩) (by omega) (show w3.drew.cell? _=_ from c0)
 obtain ⟨r0,r1⟩:=cells2 qX
 have r0d:w3.drew.cell? ⟨w.heap.size,0,none⟩=some (I am):=r0
 have r1d:w3.drew.cell? ⟨w.heap.size,1,none⟩=some (I an):=r1
 have c0d:w3.drew.cell? ⟨b,0,none⟩=_:=c0
 have c0a:=cell_alloc c0 (.cells #[I am,I an,I nd,.bool true] 223)
 obtain ⟨g6,cap6,z0,_⟩:=L5.cells
 rw [List.length_append,List.length_cons,List.length_nil,Nat.zero_add] at z0
 have HL5:=hide L5
 have HF5:=hide ((FX.trans (Fq.of_below (w':=w3.drew) ⟨rfl,rfl,rfl,Nat.le_refl _,fun _ _=>rfl⟩ (by have:=FX.size;omega))).trans F5)
 have el:=unhide HLen
 have Hel:Hid ((rs.length:Int)=md1):=el
 have hmm:(rs.length:Int)≤100:=by omega
 clear LX qX FX own hB3 hBV L5 F5 cf r0 r1 H3' HB2 HB HX HR HLen el c0
 generalize rs.length=m at *
 generalize (lst t.es).length=n at *
 go_wp2_with fail
 go_region_law (refine step_append_eq (by rfl) _ _ 224 (by rfl) 224 (by rfl) _ _ (by rfl) (by rfl) _ _ hrun ?_)
 all_goals
  clear hrun c0a c0d r0d r1d
  go_wp2_with fail
  go_ret2
  refine ⟨?_,unhide HL5,unhide HF5⟩
  rw [← unhide Hel]
  first
   | rfl
   | (simp;done)
   | (simp;omega)
theorem Rs.setLv (L:Rs base W b rs) {j:Nat} {p:Rm} (hp:rs[j]?=some p):∃ g cap,W.cell? ⟨b,0,none⟩=some (.slice (some ⟨g,0,none⟩) rs.length cap)∧W.cell? ⟨g,j * 4 + 3,none⟩=some (.bool p.lv)∧W.frozen? ⟨g,j * 4 + 3,none⟩=false ∧
  Rs base (W.setCell ⟨g,j * 4 + 3,none⟩ (.bool false)) b (rs.set j { p with lv:=false })∧Fq base b W (W.setCell ⟨g,j * 4 + 3,none⟩ (.bool false)):=by
 obtain ⟨a,cap,h1,own⟩:=L.hb
 have own0:=own
 obtain ⟨hl0,⟨e0,hz⟩ | ⟨g,cap',cur,e0,hgb,hgg,hcap,hcm,hcs,htk⟩⟩:=own
 ·have:=L.len;omega
 simp only [Value.slice.injEq] at e0
 obtain ⟨rfl,-,rfl⟩:=e0
 obtain ⟨_,_,_,r3⟩:=rrows_at rs j p hp
 have hj:=(List.getElem?_eq_some_iff.1 hp).1
 have hbg:b≠g:=by
  rintro rfl
  rw [h1] at hgg
  simp at hgg
 have hlen4:(rowsOf rrow rs).length=rs.length * 4:=by rw [rowsOf_length rrow 4 rrow_length,Nat.mul_comm]
 have c3:cur[j * 4 + 3]?=some (.bool p.lv):=by
  have hj2:=(List.getElem?_eq_some_iff.1 r3).1
  rw [← htk] at r3
  rw [List.getElem?_take_of_lt (by omega)] at r3
  simpa using r3
 have hset:=heap_set hgg (j * 4 + 3) (.bool false)
 refine ⟨g,cap,by rw [cell_of h1];rfl,by rw [cell_of hgg];exact c3,frozen_of hgg _,⟨⟨some ⟨g,0,none⟩,cap,?_,?_,.inr ⟨g,cap,_,?_,hgb,hset,?_,hcm,by simpa using hcs,?_⟩⟩,L.kb,by simpa using L.ne⟩,?_⟩
 ·rw [Below.heap_setCell _ _ _ _ hbg,List.length_set];exact h1
 ·rw [rowsOf_length rrow 4 rrow_length,List.length_set,Nat.mul_comm]
 ·simp
 ·simpa using hcap
 ·rw [List.length_set,Array.toList_setIfInBounds,List.take_set,htk,show j * 4 + 3=4 * j + 3 by omega]
  exact rowsOf_set rrow 4 rrow_length rs j 3 p { p with lv:=false } (.bool false) hp (by omega) rfl
 ·refine ⟨rfl,rfl,rfl,by simp [World.setCell],fun k hk=>Below.heap_setCell _ _ _ _ (by have:=hgb;simp;omega),fun k o g1 g2 g3=>(Below.heap_setCell _ _ _ _ ?_).trans g1⟩
  rintro rfl
  rw [hgg] at g1
  exact g3 _ (Option.some.inj g1).symm
end
attribute [local go_sem ↓] Go.wp_at_zero Go.wp_at_succ
section
variable {B:Int} {t:T} {rs:List Rm} {base b:Nat} {w:World}
theorem runbind_no (h:RT t rs) (hw:Wf B t) (hR:Rs base w b rs) (hl:rs.length≤100) (m k:Int) (hk:unbE t.es m=k) (h0:k≠0) :
  Calls Tryz.prog 100 #[.pointer (some ⟨b,0,none⟩),I m] w fun e w'=>e=.returned (I k)∧Below w.heap.size w w':=by
 have H1:=hide (ris_any base b rs m w hR)
 have H2:=hide (rabove_any base b rs m w hR (by omega))
 rw [h.is hw] at H1
 rw [h.above hw] at H2
 by_cases m0:m=0
 ·subst m0
  have ha:any t.es (isN 0)=false:=any_false.2 fun q hq=>by
   have:=hw.num q hq
   simp [isN];omega
  obtain rfl:1=k:=by simpa [unbE,ha] using hk
  clear H1 H2 hR h hw hk ha
  go_enter Tryz.func100,Tryz.ntmps100
  go_wp2_with fail
  go_ret
  exact ⟨rfl,Below.refl _ _⟩
 ·have e1:rootIs t.es m=any t.es (isN m):=by rw [rootIs,if_neg m0]
  rw [e1] at H1
  have q0:(m == 0)=false:=by simp [m0]
  cases ha:any t.es (isN m) with
  | false =>
   rw [ha] at H1
   obtain rfl:1=k:=by simpa [unbE,ha] using hk
   clear H2 hR h hw hk ha e1 h0
   go_enter Tryz.func100,Tryz.ntmps100
   go_wp2_with fail
   refine (unhide H1).mono ?_
   rintro e w1 ⟨rfl,hw1⟩
   rw [hw1]
   clear hw1 H1
   go_wp2_with fail
   go_ret
   exact ⟨rfl,Below.refl _ _⟩
  | true =>
   rw [ha] at H1
   have hb':any t.es (isM m)=true:=by
    cases hm:any t.es (isM m) with
    | true=>rfl
    | false=>exact absurd (by simpa [unbE,ha,hm] using hk.symm) h0
   obtain rfl:15=k:=by simpa [unbE,ha,hb'] using hk
   have hpos:0 < (abv t.es m).length:=by
    have:=mt abv_nil.1 (by rw [hb'];simp)
    omega
   clear hR h hw hk ha e1 h0 hb'
   go_enter Tryz.func100,Tryz.ntmps100
   go_wp2_with fail
   refine (unhide H1).mono ?_
   rintro e w1 ⟨rfl,hw1⟩
   rw [hw1]
   clear hw1 H1
   go_wp2_with fail
   refine (unhide H2).mono ?_
   rintro e w3 ⟨v,rfl,own,hB3⟩
   obtain ⟨a,cp,rfl⟩:=own_form own
   have HB3:=hide hB3
   have q8:(0:Int) < ((abv t.es m).length:Int):=by omega
   clear own hB3 H2 hpos
   generalize (abv t.es m).length=n at *
   go_wp2_with fail
   go_ret
   exact ⟨rfl,unhide HB3⟩
theorem runbind_yes (h:RT t rs) (hw:Wf B t) (hR:Rs base w b rs) (hl:rs.length≤100) (m:Int) (hz:unbE t.es m=0) :
  Calls Tryz.prog 100 #[.pointer (some ⟨b,0,none⟩),I m] w fun e w'=>e=.returned (I 0)∧(∃ rs',Rs base w' b rs'∧RT (t.unbind m) rs'∧rs'.length=rs.length)∧Fq base b w w':=by
 obtain ⟨z1,z2,z3⟩:=(unb_ok hw m).1 hz
 obtain ⟨j,p,rfl,hp,hRT⟩:=h.unb hw hz
 have H1:=hide (ris_any base b rs (j:Int) w hR)
 have H2:=hide (rabove_any base b rs (j:Int) w hR (by omega))
 rw [h.is hw,z2] at H1
 rw [h.above hw,z3] at H2
 have hj:=(List.getElem?_eq_some_iff.1 hp).1
 have HS:=hide (fun W (hB:Below w.heap.size w W)=>(hR.below hB).setLv hp)
 have HRT:=hide hRT
 have hbase:=hR.base_le
 have q0:((j:Int) == 0)=false:=by simpa using z1
 have j1:(j:Int) < (rs.length:Int):=by omega
 have j0:(0:Int)≤(j:Int):=by omega
 clear hR h hw hz z2 z3 hRT
 obtain ⟨N,hN⟩:∃ N,N=rs.length:=⟨_,rfl⟩
 rw [← hN] at j1 HS
 have HN:=hide hN
 clear hN
 go_enter Tryz.func100,Tryz.ntmps100
 go_wp2_with fail
 refine (unhide H1).mono ?_
 rintro e w1 ⟨rfl,hw1⟩
 rw [hw1]
 clear hw1 H1
 go_wp2_with fail
 refine (unhide H2).mono ?_
 rintro e w3 ⟨v,rfl,own,hB3⟩
 obtain ⟨a,cp,rfl⟩:=own_form own
 obtain ⟨g,cap,c0,c1,c2,L5,F5⟩:=unhide HS w3 hB3
 have HL5:=hide L5
 have HF5:=hide ((Fq.of_below hB3 hbase).trans F5)
 clear own hB3 H2 HS L5 F5
 go_wp2_with fail
 go_ret
 exact ⟨rfl,⟨_,unhide HL5,unhide HRT,by simp⟩,unhide HF5⟩
theorem rdown_any (h:RT t rs) (hw:Wf B t) (hR:Rs base w b rs) (hl:rs.length≤100) (m n:Int) :
  Calls Tryz.prog 103 #[.pointer (some ⟨b,0,none⟩),pv m n] w fun e w'=>e=.returned (pv (down t.md t.es m n).1 (down t.md t.es m n).2)∧Below w.heap.size w w':=by
 obtain ⟨V,hV,hs,hx,hz,hb⟩:=two0 w (.cells #[I m,I n] 50) (.cells #[I 0,I 0] 50)
 have H1:=hide (ris_any base b rs m V (hR.below hb))
 rw [h.is hw] at H1
 obtain ⟨v0,v1⟩:=cells2 hx
 cases hi:rootIs t.es m with
 | false =>
  rw [hi] at H1
  have ha:any t.es (isAt m n)=false:=any_false.2 fun p hp=>by
   have:=hw.up p hp
   simp only [isAt,decide_eq_false_iff_not]
   rintro ⟨e,_⟩
   rw [e,hi] at this
   cases this
  rw [down_stop ha]
  obtain ⟨X1,X2,⟨x1,x2⟩,⟨c0,c1⟩,⟨f0,f1⟩,q1,hfr,hsx⟩:=store2 hz (I m) (I n)
  obtain ⟨z0,z1⟩:=cells2 q1
  have HE:=hide (hb.trans (hfr.base (B:=w.heap.size) (by omega) (by simp)))
  clear hR h hw hi ha hb hx hz hfr hsx q1
  unfold pv
  go_enter Tryz.func103,Tryz.ntmps103
  go_wp2_with fail
  refine (unhide H1).mono ?_
  rintro e w1 ⟨rfl,hw1⟩
  rw [hw1]
  clear hw1 H1
  go_wp2_with fail
  refine bodyPost_ret (v:=.agg #[I m,I n]) (by simp [results,Tryz.results103,go_sem,z0,z1]) rfl ?_
  exact ⟨rfl,unhide HE⟩
 | true =>
  rw [hi] at H1
  have HE:=hide hw.eld
  have HOv:=hide (fun m n r (ho:Ov rs (lvAt m n) r)=>h.over hw ho)
  have HNd:Hid (∀ m n,any t.es (isAt m n)=true→0 < (fst t.es (isAt m n)).n∧∃ q,rs[(fst t.es (isAt m n)).n.toNat]?=some q∧q.nd=(fst t.es (isAt m n)).top):=fun m n ha=>⟨hw.num _ (fst_mem ha).1,_,h.live _ (fst_mem ha).1,rfl⟩
  have HL:=hide (fun m n W (hB:Below w.heap.size w W)=>over_any base b rs m n W (hR.below hB) (by omega))
  have HC:=hide (fun W (hB:Below w.heap.size w W)=>(hR.below hB).cells)
  obtain ⟨r,hr⟩:∃ r,r=down t.md t.es m n:=⟨_,rfl⟩
  rw [← hr]
  have Hr:=hide hr
  have HB:=hide hb
  have HX:=hide hx
  have HZ:=hide hz
  have hbl:=hR.lt
  clear hR h hw hi hb hx hz hr
  unfold pv
  go_enter Tryz.func103,Tryz.ntmps103
  go_wp2_with fail
  refine (unhide H1).mono ?_
  rintro e w1 ⟨rfl,hw1⟩
  rw [hw1]
  clear hw1 H1 v0 v1
  go_wp2_with fail
  generalize hh:w.heap.size=h at *
  go_loopw [5] (fun _ wr=>∃ m n:Int,r=down t.md t.es m n∧wr.heap[h]?=some (.cells #[I m,I n] 50)∧wr.heap[h + 1]?=some (.cells #[I 0,I 0] 50)∧Below h w wr) (fun _ wr=>(t.md + 1 - cInt wr h).toNat)
  case atStart=>exact ⟨m,n,unhide Hr,unhide HX,unhide HZ,unhide HB⟩
  case round =>
   clear hV hs HB HX HZ Hr
   obtain ⟨m,n,hr,hx,hz,hb⟩:=hrel
   obtain ⟨x0,x1⟩:=cells2 hx
   have hcm:cInt wr h=m:=by rw [cInt,x0]
   have Hc:=hide hcm
   have HF:=hide (unhide HL m n wr hb)
   have HO2:=hide (fun r (ho:Ov rs (lvAt m n) r)=>unhide HOv m n r ho)
   have HX:=hide hx
   have HZ:=hide hz
   have HB:=hide hb
   clear hcm hx hz hb
   cases ha:any t.es (isAt m n) with
   | false =>
    have He:Hid (r=(m,n)):=hide (hr.trans (down_stop ha))
    rw [ha] at HO2
    clear hr HL
    go_wp2_with fail
    refine (unhide HF).mono ?_
    rintro e w1 ⟨⟨q,ho,rfl⟩,hB⟩
    obtain rfl:q=-1:=by simpa using unhide HO2 q ho
    have hz1:=(hB.block _ (lt_of_heap (unhide HZ))).trans (unhide HZ)
    have hx1:=(hB.block _ (lt_of_heap (unhide HX))).trans (unhide HX)
    have hB2:Below h w w1:=(unhide HB).trans (hB.mono (by have:=lt_of_heap (unhide HX);omega))
    obtain ⟨p0,p1⟩:=cells2 hx1
    obtain ⟨X1,X2,⟨x1',x2'⟩,⟨c0,c1⟩,⟨f0,f1⟩,q1,hfr,hsx⟩:=store2 hz1 (I m) (I n)
    obtain ⟨z0,z1⟩:=cells2 q1
    have HE2:=hide (hB2.trans (hfr.base (B:=h) (by have:=lt_of_heap hx1;omega) (by simp)))
    clear hfr hsx q1 hB2 hz1 hx1 hB HF HB HX HZ x0 x1 ho HO2
    go_wp2_with fail
    refine bodyPost_ret (v:=.agg #[I m,I n]) (by simp [results,Tryz.results103,go_sem,z0,z1]) rfl ?_
    rw [unhide He,hh]
    exact ⟨rfl,unhide HE2⟩
   | true =>
    obtain ⟨g1,g2⟩:=(unhide HE).next ha
    have g3:=hr.trans (down_step (unhide HE) ha)
    obtain ⟨g4,q,g5,g6⟩:=unhide HNd m n ha
    rw [ha] at HO2
    obtain ⟨x,hx⟩:∃ x,x=fst t.es (isAt m n):=⟨_,rfl⟩
    rw [← hx] at g1 g2 g3 g4 g5 g6 HO2
    obtain ⟨j,hj⟩:∃ j:Nat,x.n=(j:Int):=⟨x.n.toNat,by omega⟩
    rw [hj] at g5 HO2
    rw [Int.toNat_natCast] at g5
    have Hg:=hide (⟨g1,g2,g3⟩:m < x.n∧x.n≤t.md∧r=down t.md t.es x.n x.top)
    have Hj:=hide hj
    have Hg5:=hide g5
    have Hg6:=hide g6
    have hjl:=(List.getElem?_eq_some_iff.1 g5).1
    clear hr HL g1 g2 g3 g4 g5 g6 hx hj ha
    go_wp2_with fail
    refine (unhide HF).mono ?_
    rintro e w1 ⟨⟨q',ho,rfl⟩,hB⟩
    obtain rfl:q'=(j:Int):=by simpa using unhide HO2 q' ho
    have hz1:=(hB.block _ (lt_of_heap (unhide HZ))).trans (unhide HZ)
    have hx1:=(hB.block _ (lt_of_heap (unhide HX))).trans (unhide HX)
    have hB2:Below h w w1:=(unhide HB).trans (hB.mono (by have:=lt_of_heap (unhide HX);omega))
    obtain ⟨g,cap,k0,_,_,_,hcs⟩:=unhide HC w1 hB2
    obtain ⟨_,_,k2,_⟩:=hcs j q (unhide Hg5)
    rw [unhide Hg6] at k2
    obtain ⟨X1,X2,⟨x1',x2'⟩,⟨c0,c1⟩,⟨f0,f1⟩,q1,hfr,hsx⟩:=store2 hx1 (I (j:Int)) (I x.top)
    have HE2:=hide (hB2.trans (hfr.base (B:=h) (by have:=lt_of_heap hx1;omega) (by simp)))
    have Hq:=hide q1
    have Hz:=hide ((hfr.blk (h + 1) (lt_of_heap hz1) (by simp)).trans hz1)
    have i0:¬ (j:Int) < 0:=by omega
    have i1:(j:Int) < (rs.length:Int):=by omega
    have i2:(0:Int)≤(j:Int):=by omega
    clear hfr hsx q1 hB2 hz1 hx1 hB HF HB HX HZ x0 x1 ho HO2 hcs
    generalize rs.length=N at *
    go_wp2_with fail
    go_roundw
    case rel=>exact ⟨x.n,x.top,(unhide Hg).2.2,by rw [unhide Hj];exact unhide Hq,unhide Hz,unhide HE2⟩
    case measure =>
     have e1:cInt X2 h=x.n:=by rw [cInt,cell_of (unhide Hq),unhide Hj];rfl
     rw [e1,unhide Hc]
     have:=unhide Hg
     omega
end
theorem up_zero {B:Int} {t:T} (h:Wf B t) (n:Int):upM t.es 0 n=0∧upN t.es 0 n=n∧upIs t.es 0 n=false:=by
 have hu:upIs t.es 0 n=false:=by
  have:any t.es (isN 0)=false:=any_false.2 fun q hq=>by
   have:=h.num q hq
   simp [isN];omega
  rw [upIs,this];rfl
 exact ⟨by rw [upM,hu];rfl,by rw [upN,hu];rfl,hu⟩
attribute [local go_sem ↓] Go.wp_at_zero Go.wp_at_succ
section
variable {B:Int} {t:T} {rs:List Rm} {base b:Nat} {w:World}
theorem rup_any (h:RT t rs) (hw:Wf B t) (hR:Rs base w b rs) (m n:Int) :
  Calls Tryz.prog 239 #[.pointer (some ⟨b,0,none⟩),pv m n] w fun e w'=>e=.returned (.tuple #[pv (upM t.es m n) (upN t.es m n),.bool (upIs t.es m n)])∧Below w.heap.size w w':=by
 obtain ⟨V,hV,hs,hx,hz,hb⟩:=two0 w (.cells #[I m,I n] 50) (.cells #[I 0,I 0] 50)
 have HI:=hide (fun k=>ris_any base b rs m (V.drewN k) (hR.below (below_dn hb k)))
 rw [h.is hw] at HI
 obtain ⟨v0,v1⟩:=cells2 hx
 have HC:=hide (fun W (hB:Below w.heap.size w W)=>(hR.below hB).cells)
 have HB:=hide hb
 have HZ:=hide hz
 have HX:=hide hx
 have hbl:=hR.lt
 -- the answer 'the place itself'
 have NO:upIs t.es m n=false→upM t.es m n=m∧upN t.es m n=n:=fun hu=>⟨by rw [upM,hu];rfl,by rw [upN,hu];rfl⟩
 by_cases m0:m=0
 ·subst m0
  obtain ⟨u1,u2,u3⟩:=up_zero hw n
  rw [u1,u2,u3]
  clear NO u1 u2 u3 HI h hw hR hb hz hx
  unfold pv
  go_enter Tryz.func239,Tryz.ntmps239
  go_wp2_with fail
  go_quiet (fail)
  have HB3:=hide (below_dn (unhide HB) nq)
  have hz3:(V.drewN nq).heap[w.heap.size + 1]?=_:=unhide HZ
  have hx3:(V.drewN nq).heap[w.heap.size]?=_:=unhide HX
  generalize V.drewN nq=W3 at *
  obtain ⟨p0,p1⟩:=cells2 hx3
  obtain ⟨X1,X2,⟨x1,x2⟩,⟨c0,c1⟩,⟨f0,f1⟩,q1,hfr,hsx⟩:=store2 hz3 (I 0) (I n)
  obtain ⟨z0,z1⟩:=cells2 q1
  have HE:=hide ((unhide HB3).trans (hfr.base (B:=w.heap.size) (unhide HB3).size (by simp)))
  clear hfr hsx q1 hx3 hz3
  go_wp2_with fail
  refine bodyPost_ret (v:=.tuple #[.agg #[I 0,I n],.bool false]) (by simp [results,Tryz.results239,go_sem,z0,z1]) rfl ?_
  exact ⟨rfl,unhide HE⟩
 ·have e1:rootIs t.es m=any t.es (isN m):=by rw [rootIs,if_neg m0]
  rw [e1] at HI
  have q0:(m == 0)=false:=by simp [m0]
  cases ha:any t.es (isN m) with
  | false =>
   rw [ha] at HI
   have hu:upIs t.es m n=false:=by rw [upIs,ha];rfl
   obtain ⟨u1,u2⟩:=NO hu
   rw [u1,u2,hu]
   clear NO u1 u2 hu h hw hR hb hz hx ha e1
   unfold pv
   go_enter Tryz.func239,Tryz.ntmps239
   go_wp2_with fail
   go_quiet ((go_at_call 155;exact Calls.quiet_of_same (unhide HI _)))
   have HB3:=hide (below_dn (unhide HB) nq)
   have hz3:(V.drewN nq).heap[w.heap.size + 1]?=_:=unhide HZ
   have hx3:(V.drewN nq).heap[w.heap.size]?=_:=unhide HX
   generalize V.drewN nq=W3 at *
   obtain ⟨p0,p1⟩:=cells2 hx3
   obtain ⟨X1,X2,⟨x1,x2⟩,⟨c0,c1⟩,⟨f0,f1⟩,q1,hfr,hsx⟩:=store2 hz3 (I m) (I n)
   obtain ⟨z0,z1⟩:=cells2 q1
   have HE:=hide ((unhide HB3).trans (hfr.base (B:=w.heap.size) (unhide HB3).size (by simp)))
   clear hfr hsx q1 hx3 hz3
   go_wp2_with fail
   refine bodyPost_ret (v:=.tuple #[.agg #[I m,I n],.bool false]) (by simp [results,Tryz.results239,go_sem,z0,z1]) rfl ?_
   exact ⟨rfl,unhide HE⟩
  | true =>
   rw [ha] at HI
   obtain ⟨f1,f2⟩:=fst_mem ha
   simp only [isN,decide_eq_true_eq] at f2
   have hlv:=h.live _ f1
   have hn:=hw.num _ f1
   obtain ⟨x,hxx⟩:∃ x,x=fst t.es (isN m):=⟨_,rfl⟩
   rw [← hxx] at f1 f2 hlv hn
   obtain ⟨j,hj⟩:∃ j:Nat,m=(j:Int):=⟨m.toNat,by omega⟩
   rw [f2,hj,Int.toNat_natCast] at hlv
   have hjl:=(List.getElem?_eq_some_iff.1 hlv).1
   obtain ⟨g,cap,k0,_,_,_,hcs⟩:=unhide HC V hb
   obtain ⟨k1,k2,k3,_⟩:=hcs j _ hlv
   simp only [] at k1 k2 k3
   have j1:(j:Int) < (rs.length:Int):=by omega
   have j0:(0:Int)≤(j:Int):=by omega
   by_cases ht:x.top=n
   ·have hu:upIs t.es m n=true:=by rw [upIs,ha,← hxx];simp [ht]
    have u1:upM t.es m n=x.am:=by rw [upM,hu,← hxx];rfl
    have u2:upN t.es m n=x.an:=by rw [upN,hu,← hxx];rfl
    rw [u1,u2,hu]
    subst hj
    subst ht
    clear NO u1 u2 hu h hw hR hb hz hx ha e1 hxx f1 f2 hlv hcs HC
    generalize rs.length=N at *
    unfold pv
    go_enter Tryz.func239,Tryz.ntmps239
    go_wp2_with fail
    go_quiet ((go_at_call 155;exact Calls.quiet_of_same (unhide HI _)))
    have HB3:=hide (below_dn (unhide HB) nq)
    have hz3:(V.drewN nq).heap[w.heap.size + 1]?=_:=unhide HZ
    have hx3:(V.drewN nq).heap[w.heap.size]?=_:=unhide HX
    have k0':(V.drewN nq).cell? ⟨b,0,none⟩=_:=k0
    have k1':(V.drewN nq).cell? ⟨g,j * 4,none⟩=_:=k1
    have k2':(V.drewN nq).cell? ⟨g,j * 4 + 1,none⟩=_:=k2
    generalize V.drewN nq=W3 at *
    obtain ⟨p0,p1⟩:=cells2 hx3
    go_upto_region 3 with fail
    obtain ⟨X1,X2,⟨x1,x2⟩,⟨c0,c1⟩,⟨f0,f1⟩,q1,hfr,hsx⟩:=store2 (W:=W3.drew) hz3 (I x.am) (I x.an)
    obtain ⟨z0,z1⟩:=cells2 q1
    have HE:=hide ((below_drew (unhide HB3)).trans (hfr.base (B:=w.heap.size) (unhide HB3).size (by simp)))
    clear hfr hsx q1 hx3 hz3
    go_region
    all_goals
     go_wp2_with fail
     refine bodyPost_ret (v:=.tuple #[.agg #[I x.am,I x.an],.bool true]) (by simp [results,Tryz.results239,go_sem,z0,z1]) rfl ?_
     exact ⟨rfl,unhide HE⟩
   ·have hu:upIs t.es m n=false:=by rw [upIs,ha,← hxx];simp [ht]
    obtain ⟨u1,u2⟩:=NO hu
    rw [u1,u2,hu]
    subst hj
    clear NO u1 u2 hu h hw hR hb hz hx ha e1 hxx f1 f2 hlv hcs HC
    generalize rs.length=N at *
    unfold pv
    go_enter Tryz.func239,Tryz.ntmps239
    go_wp2_with fail
    go_quiet ((go_at_call 155;exact Calls.quiet_of_same (unhide HI _)))
    have HB3:=hide (below_dn (unhide HB) nq)
    have hz3:(V.drewN nq).heap[w.heap.size + 1]?=_:=unhide HZ
    have hx3:(V.drewN nq).heap[w.heap.size]?=_:=unhide HX
    generalize V.drewN nq=W3 at *
    obtain ⟨p0,p1⟩:=cells2 hx3
    obtain ⟨X1,X2,⟨x1,x2⟩,⟨c0,c1⟩,⟨f0,f1⟩,q1,hfr,hsx⟩:=store2 hz3 (I (j:Int)) (I n)
    obtain ⟨z0,z1⟩:=cells2 q1
    have HE:=hide ((unhide HB3).trans (hfr.base (B:=w.heap.size) (unhide HB3).size (by simp)))
    clear hfr hsx q1 hx3 hz3
    go_wp2_with fail
    refine bodyPost_ret (v:=.tuple #[.agg #[I (j:Int),I n],.bool false]) (by simp [results,Tryz.results239,go_sem,z0,z1]) rfl ?_
    exact ⟨rfl,unhide HE⟩
end
end Go.Proofs.YtlngeaacjbdmhaaGreat.Mt
namespace Go.Proofs.YtlngeaacjbdmhaaGreat.Kr
open Go.RowKit
theorem rmay_any (cu cg n k m u g l z wt:Int) (w:World):Calls Tryz.prog 160 #[Cr cu cg,St n k m u g l z,I wt] w fun e w'=>e=.returned (.bool (may cu cg m u g wt))∧Below w.heap.size w w':=by
 by_cases h0:cu=0
 ·subst h0
  go_enter Tryz.func160,Tryz.ntmps160
  go_wp2_with fail
  go_ret
  exact ⟨by simp [may,cnt,show lo 7=7 from rfl,has_seven],two _ _ _⟩
 ·have h0':(cu == 0)=false:=by simpa using h0
  by_cases h1:cu=u <;> by_cases h2:cg=g
  all_goals go_enter Tryz.func160,Tryz.ntmps160
  all_goals go_wp2_with fail
  all_goals go_ret
  all_goals refine ⟨?_,two _ _ _⟩
  all_goals show Ending.returned (Value.bool _)=_
  all_goals rw [and7,and7,has_and]
  all_goals unfold may cnt
  all_goals rw [if_neg h0]
  all_goals first | rw [if_pos h1] | rw [if_neg h1,if_pos h2] | rw [if_neg h1,if_neg h2]
end Go.Proofs.YtlngeaacjbdmhaaGreat.Kr
namespace Go.Proofs.YtlngeaacjbdmhaaGreat.Nm
open Go.RowKit
structure AppRun (t ty:TypeId) (vs vx:Value) (w:World) (v':Value) (w':World):Prop where
 run:(Builtin.append_ #[t,t] ty #[vs,vx]).run Tryz.prog w=.ok v' w'
theorem step_append_g {w:World} {ops:Array Oper} {o:Oper} {a:Act} {K:Act→World→Prop} {Q:Exit→Act→World→Prop} {E:Prop} {t ty:TypeId} {vs vx v':Value} {w':World} (hrun:AppRun t ty vs vx w v' w') (s x:Operand)
  (ho:o.op=.call { callee:=.builtin .append,args:=#[s,x],argTypes:=#[t,t] }) (hty:o.type=ty) (hw:Region.wanted o (yielded ops a.tmps)=true) (hs:a.eval s=vs) (hx:a.eval x=vx)
  (h:K (a.put o.dst v') w') :
  if Region.wanted o (yielded ops a.tmps)=true then Oper.wp Tryz.prog o a w K Q else E:=by
 rw [if_pos hw]
 unfold Oper.wp execOp
 simp only [ho,resolve,invoke,builtin,Sem.run_bind,Sem.run_pure,Result.andThen_ok,List.map_toArray,List.map_cons,List.map_nil,hs,hx,hty,hrun.run]
 exact h
theorem long_err {l:List UInt8} (h:4096 < l.length):err l=45:=by
 unfold err
 rw [if_neg (by rintro rfl;simp at h),if_pos h]
theorem box {W:World} (o:Obj):∃ W',W.alloc o=W'∧Below W.heap.size W W'∧W'.heap[W.heap.size]?=some o :=
 ⟨_,rfl,(Below.refl _ W).alloc (Nat.le_refl _) o,putAll _ _ rfl⟩
theorem cat_two (a b:List UInt8):bs a ++ bs b=bs (a ++ b):=by
 apply ByteArray.ext
 simp
end Go.Proofs.YtlngeaacjbdmhaaGreat.Nm
