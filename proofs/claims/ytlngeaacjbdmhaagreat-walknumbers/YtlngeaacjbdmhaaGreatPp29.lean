/-
 The document's own tree: Make,done.
-/
import Derived.Test.YtlngeaacjbdmhaaGreatPp28
import Derived.Test.YtlngeaacjbdmhaaGreatPp11
import Derived.Test.YtlngeaacjbdmhaaGreatPp23
set_option maxRecDepth 100000
set_option maxHeartbeats 1000000
namespace Go.Proofs.YtlngeaacjbdmhaaGreat.Rf
open Go.RowKit Go.Maps
attribute [local go_sem ↓] Go.wp_at_zero Go.wp_at_succ
section
variable {lo N:Nat} {W W':World} {r:Nat} {T:Tr} {p:Nat} {Lv:Value} {nb:Int→Nat} {ev:Int→Value} {uv:Int→Int} {B:Nat}
def nd0 (kd mo ui gi:Int) (text:ByteArray) (f:Int):Nd:=⟨kd,bits .and .i64 mo 4095,ui,gi,0,0,0,[],f,text⟩
theorem add_more (kd mo ui gi:Int) (text:ByteArray):T.add kd mo ui gi text=Tr.more { T with pool:=if kd=2 then T.pool.add else T.pool } (nd0 kd mo ui gi text (if kd=2 then (T.pool.fs.length:Int) + 1 else 0)):=rfl
theorem Uq.make (hu:Uq T uv) (hw:Wf B T) {dir:Int} {s:ByteArray} {kd mo ui gi:Int} {text:ByteArray} (h:T.makeE dir s kd text=0) (g:Int→Int) (g1:kd=1→g ((T.made:Int) + 1)=dir) (g2:∀ k,k≠(T.made:Int) + 1→g k=uv k):Uq (T.make dir s kd mo ui gi text) g:=by
 obtain ⟨d,hd,hdk,hg,hdn,hr,hkk,_⟩:=Tr.makeE0 h
 have hnd:=fun k=>Tr.make_nd (mode:=mo) (uid:=ui) (gid:=gi) hw.k h hd k
 intro k z hz
 obtain ⟨z1,z2⟩:=Tr.dir_some.1 hz
 rw [Tr.up_dir z1 z2]
 rw [hnd] at z1
 by_cases e:k=(T.made:Int) + 1
 ·rw [if_pos e] at z1
  cases z1
  rw [e,g1 z2]
  have z3:kd=1:=z2
  simp [z3]
 ·rw [if_neg e] at z1
  rw [g2 k e]
  by_cases e2:k=dir
  ·rw [if_pos e2] at z1
   cases z1
   rw [hu k d (Tr.dir_some.2 ⟨by rw [e2];exact hd,z2⟩),Tr.up_dir (by rw [e2];exact hd) hdk]
  ·rw [if_neg e2] at z1
   rw [hu k z (Tr.dir_some.2 ⟨z1,z2⟩),Tr.up_dir z1 z2]
theorem DtI.off (h:DtI lo N W r T p Lv nb ev uv) {c:Nat} {cs:Array Value} (hc:W.heap[c]?=some (.cells cs 139)) (hcl:lo≤c) (hcn:∀ k y,T.nd k=some y→nb k≠c) (F:Fr [c] W W'):DtI lo N W' r T p Lv nb ev uv∧Rx lo W W':=by
 have hk:∀ (b:Nat) (cs':Array Value) (t:TypeId) (f:Nat × Nat),W.heap[b]?=some (.cells cs' t f)→t≠139→W'.heap[b]?=W.heap[b]?:=fun b cs' t f e ht=>F.blk b (lt_of_heap e) (by
  simp
  rintro rfl
  rw [hc] at e
  cases e
  exact ht rfl)
 refine ⟨⟨(hk _ _ _ _ h.ht (by decide)).trans h.ht,own_keep h.hL fun b cur e=>hk _ _ _ _ e (by decide),fun k x hx=>⟨(F.blk _ (lt_of_heap (h.hn k x hx).1) (by simp;exact hcn k x hx)).trans (h.hn k x hx).1,(h.hn k x hx).2.keep fun b cur e=>hk _ _ _ _ e (by decide)⟩,h.dn,?_,h.bd.1,Nat.le_trans h.bd.2.1 F.size,h.bd.2.2⟩,Rx.of_fr F h.bd.2.1 fun b hb=>?_⟩
 ·obtain ⟨L,fb,bv,hp⟩:=h.pl
  exact Rb.Rq.mono ⟨L,fb,bv,hp.keep F.size fun b cs t f e ht=>hk b cs t f e (by rcases ht with rfl | rfl | rfl | rfl <;> decide)⟩ F.size (Nat.le_refl _)
 ·simp at hb
  subst hb
  exact ⟨hcl,_,_,_,hc,by simp [rty]⟩
def AppPut (lo N:Nat) (W0 W:World) (r c:Nat) (T':Tr) (n:Int) (Lv:Value) (dir:Int) (s:ByteArray):Prop :=
 ∃ (v':Value) (X:World),(Builtin.append_ #[133,133] 133 #[Lv,.slice (some ⟨W.heap.size,0,none⟩) 1 1]).run Tryz.prog (W.alloc (.cells #[P0 c] 136))=.ok v' X∧W.cell? ⟨r,2,none⟩=some Lv∧X.cell? ⟨r,2,none⟩=some Lv∧X.frozen? ⟨r,2,none⟩=false∧(∃ a m cap,v'=.slice a m cap) ∧
  Hid (Calls Tryz.prog 131 #[P0 r,I dir,.string s,I n] (X.setCell ⟨r,2,none⟩ v') fun e w'=>e=.returned (.tuple #[])∧De lo N W0 w' r T')
theorem more_put {W0:World} {T':Tr} {dir:Int} {s:ByteArray} {x d:Nd} {c:Nat} (h:DtI lo N W r T p Lv nb ev uv) (hR:Rx lo W0 W) (hw:Wk B T) (hB:B≤880) (hw1:Wk (B + 1) (Tr.more T x)) (hT:(Tr.more T x).give dir s ((T.made:Int) + 1)=T') (hU:∀ g:Int→Int,(x.kind=1→g ((T.made:Int) + 1)=dir)→(∀ k,k≠(T.made:Int) + 1→g k=uv k)→Uq T' g)
  (hc:W.heap[c]?=some (.cells (dnC ((T.made:Int) + 1) x 0 (.slice none 0 0)) 139)) (hx:x.ins=[]) (hcl:lo≤c) (hcn:∀ k y,T.nd k=some y→nb k≠c) (hd:T.nd dir=some d) (hg:getE d.ins s=none) (hdw:(kl dir).wf=true) :
  AppPut lo N W0 W r c T' ((T.made:Int) + 1) Lv dir s:=by
 obtain ⟨i0,hi,hz0,hz1,hz2⟩:=info_parts infoPR
 have hm:=hw.made
 have hkd:=hw.key dir d hd
 have own0:(W.alloc (.cells #[P0 c] 136)).ownsRow lo 136 1 Lv T.made (dptrs T nb):=own_keep h.hL fun b cur e=>Below.heap_alloc _ _ _ (lt_of_heap e)
 obtain ⟨v',X,hrun,own1,hgr,-,-⟩:=run_append_own_at (P:=Tryz.prog) (W.alloc (.cells #[P0 c] 136)) lo 133 133 136 i0 (.pointer none) 1 8 Tryz.underlying133 hi hz0 hz1 hz2 rfl (by decide) Lv T.made (dptrs T nb) own0 ⟨W.heap.size,0,none⟩ 1 1 [P0 c] rfl (Nm.cell_one_new W _ _) (by intro u hu;simp at hu;subst hu;rfl) (by unfold maxLen;omega) (by omega) (by have:=h.bd.2.1;simp;omega)
 obtain ⟨h1,R1⟩:=h.more hw hc hcl hcn (by rw [hx];exact World.ownsRow_nil _ _ _ _) own1 hgr
 have hd1:(Tr.more T x).nd dir=some d:=by simp only [Tr.more];rw [if_neg (by omega)];exact hd
 have hn1:(Tr.more T x).nd ((T.made:Int) + 1)=some x:=by simp [Tr.more]
 have hrX:X.heap[r]?=W.heap[r]?:=by
  have hb:=lt_of_heap h.ht
  rw [hgr.block r (by simp;omega) (fun e2=>by
   obtain ⟨-,cur,e3⟩:=Rb.own_blk h.hL e2.symm
   rw [h.ht] at e3
   simp at e3),Below.heap_alloc _ _ _ hb]
 have hrc:X.heap[r]?=some (.cells #[I (T.most:Int),P0 p,Lv] 135):=hrX.trans h.ht
 refine ⟨v',X,hrun,h.cells.2.2.1,by rw [cell_of hrc];rfl,frozen_of hrc 2,?_,hide ((put_any h1 hw1 (by omega) dir ((T.made:Int) + 1) s d x hd1 hn1 (by omega) hg hdw).mono ?_)⟩
 ·obtain ⟨a,cp,e⟩:=own_form own1
  exact ⟨a,_,cp,e⟩
 ·rintro e w' ⟨h2,ev',h3,R2⟩
  rw [hT] at h3
  exact ⟨h2,⟨p,v',_,ev',_,h3,hU _ (fun hk=>by simp [hk]) (fun k hk=>by simp [hk])⟩,(hR.trans R1).trans R2⟩
theorem make_tail (h:DtI lo N W r T p Lv nb ev uv) (hu:Uq T uv) (hw:Wf B T) (hB:B≤875) {dir:Int} {s:ByteArray} (hdw:(kl dir).wf=true) {sn kd mo ui gi li si:Int} {text:ByteArray} (hq:T.makeE dir s kd text=0) (ht:text.size≤281474976710656) {V:World} (hV:Below W.heap.size W V) (hS:V.heap[W.heap.size]?=some (.cells #[I sn,I kd,I mo,I ui,I gi,I li,I si] 33)) :
  ∃ D,V.alloc (.cells #[I ((T.made:Int) + 1),I kd,I (bits .and .i64 mo 4095),I ui,I gi,I 0,I 0,.string text,.slice none 0 0,I 0,I 0,I 0,I 0] 139)=D ∧
   V.cell? ⟨r,2,none⟩=some Lv∧D.cell? ⟨r,1,none⟩=some (P0 p)∧D.cell? ⟨W.heap.size,1,none⟩=some (I kd) ∧
   (V.cell? ⟨W.heap.size,1,none⟩=some (I kd)∧V.cell? ⟨W.heap.size,2,none⟩=some (I mo)∧V.cell? ⟨W.heap.size,3,none⟩=some (I ui)∧V.cell? ⟨W.heap.size,4,none⟩=some (I gi))∧(D.cell? ⟨W.heap.size,2,none⟩=some (I mo)∧D.cell? ⟨W.heap.size,3,none⟩=some (I ui)∧D.cell? ⟨W.heap.size,4,none⟩=some (I gi)) ∧
   Hid (kd≠2→AppPut lo N W D r V.heap.size (T.make dir s kd mo ui gi text) ((T.made:Int) + 1) Lv dir s) ∧
   Hid (kd=2→Calls Tryz.prog 130 #[P0 p] D fun e w'=>e=.returned (I ((T.pool.fs.length + 1:Nat):Int))∧w'.cell? ⟨V.heap.size,12,none⟩=some (I 0)∧w'.frozen? ⟨V.heap.size,12,none⟩=false∧∃ Y,w'.setCell ⟨V.heap.size,12,none⟩ (I ((T.pool.fs.length + 1:Nat):Int))=Y∧AppPut lo N W Y r V.heap.size (T.make dir s kd mo ui gi text) ((T.made:Int) + 1) Lv dir s):=by
 obtain ⟨d,hd,hdk,hg,hdn,hr,hkk,-⟩:=Tr.makeE0 hq
 obtain ⟨D,hD,hD1,hDB⟩:∃ D,V.alloc (.cells #[I ((T.made:Int) + 1),I kd,I (bits .and .i64 mo 4095),I ui,I gi,I 0,I 0,.string text,.slice none 0 0,I 0,I 0,I 0,I 0] 139)=D∧D.heap[V.heap.size]?=some (.cells #[I ((T.made:Int) + 1),I kd,I (bits .and .i64 mo 4095),I ui,I gi,I 0,I 0,.string text,.slice none 0 0,I 0,I 0,I 0,I 0] 139)∧Below V.heap.size V D:=⟨_,rfl,putAll _ _ rfl,(Below.refl _ _).alloc (Nat.le_refl _) _⟩
 have hVs:=hV.size
 have hsl:=lt_of_heap hS
 have hV1:=h.below hV
 have hDW:Below W.heap.size W D:=hV.trans (hDB.mono hVs)
 have hD2:=h.below hDW
 have hm1:=hw.made1
 have hkn:nm1 ((T.made:Int) + 1) (nd0 kd mo ui gi text 0)=0:=by simp [nm1,nd0];omega
 have hkf:∀ f,dnC ((T.made:Int) + 1) (nd0 kd mo ui gi text f) 0 (.slice none 0 0)=#[I ((T.made:Int) + 1),I kd,I (bits .and .i64 mo 4095),I ui,I gi,I 0,I 0,.string text,.slice none 0 0,I 0,I 0,I 0,I f]:=fun f=>by
  have e:nm1 ((T.made:Int) + 1) (nd0 kd mo ui gi text f)=0:=by simp [nm1,nd0];omega
  simp only [dnC,e]
  rfl
 have hcn:∀ k y,T.nd k=some y→nb k≠V.heap.size:=fun k y hk=>by
  have:=lt_of_heap (h.hn k y hk).1
  omega
 have hcl:lo≤V.heap.size:=by have:=h.bd.2.1;omega
 have hwa:=hw.k.add hm1 mo ui gi text hkk ht
 rw [add_more] at hwa
 have hmk:T.make dir s kd mo ui gi text=(T.add kd mo ui gi text).give dir s ((T.made:Int) + 1):=by rw [Tr.make,if_pos hq]
 obtain ⟨s0,s1,s2,s3,s4,s5,s6,sf⟩:=cells7 hS
 obtain ⟨-,t1,t2,t3,t4,-,-,-⟩:=cells7 ((hDB.block _ hsl).trans hS)
 refine ⟨D,hD,hV1.cells.2.2.1,hD2.cells.2.1,t1,⟨s1,s2,s3,s4⟩,⟨t2,t3,t4⟩,hide fun hk2=>?_,hide fun hk2=>?_⟩
 ·refine more_put (x:=nd0 kd mo ui gi text 0) hD2 (Rx.of_below hDW h.bd.2.1) hw.k (by omega) (by simpa [hk2] using hwa) (by rw [hmk,add_more];simp [hk2]) (fun g g1 g2=>hu.make hw hq g (fun e=>g1 e) g2) (by rw [hkf];exact hD1) rfl hcl hcn hd hg hdw
 ·have hpl:=hw.k.pol
  refine (Rb.rmake_any hD2.pl (by omega)).mono ?_
  rintro e w' ⟨rfl,hq2,F⟩
  obtain ⟨h3,R3⟩:=hD2.pool hq2 F
  have hc3:=(F.oth _ _ _ _ hD1 (by decide) (by decide) (by decide) (by decide)).trans hD1
  have hF:Fr [V.heap.size] w' (w'.setCell ⟨V.heap.size,12,none⟩ (I ((T.pool.fs.length + 1:Nat):Int))):=(Fr.refl _ w').set (a:=⟨V.heap.size,12,none⟩) (by simp) _
  obtain ⟨h4,R4⟩:=h3.off hc3 hcl hcn hF
  refine ⟨rfl,by rw [cell_of hc3];rfl,frozen_of hc3 12,_,rfl,?_⟩
  refine more_put (T:={ T with pool:=T.pool.add }) (x:=nd0 kd mo ui gi text ((T.pool.fs.length:Int) + 1)) h4 (((Rx.of_below hDW h.bd.2.1).trans R3).trans R4) (B:=B + 1) ?_ (by omega) ?_ (by rw [hmk,add_more];simp [hk2]) (fun g g1 g2=>hu.make hw hq g (fun e=>g1 e) g2) (by rw [hkf,heap_set hc3];rfl) rfl hcl hcn hd hg hdw
  ·have k:=hw.k.mono (Nat.le_succ B)
   exact ⟨k.key,k.srt,k.liv,k.made,k.bnd,k.nam,k.txt,k.fil,k.knd,k.upw,k.num,by simp [S.add];omega,k.mst⟩
  ·have:=hwa.mono (Nat.le_succ _)
   simpa [hk2] using this
end
open Go.RowKit Go.Maps
theorem put_del_comm {l:List Ent} (h:Srt l) {s s2:ByteArray} {n:Int} (hg:getE l s=some n) (hs2:getE l s2=none):putE (delE l s) s2 n=delE (putE l s2 n) s:=by
 have hne:s2≠s:=fun e=>by rw [e,hg] at hs2;cases hs2
 have h1:getE (delE l s) s2=none:=by rw [delE_get h hg,if_neg hne];exact hs2
 have h2:getE (putE l s2 n) s=some n:=by rw [putE_get h hs2,if_neg (Ne.symm hne)];exact hg
 refine Srt.ext ((h.del s).put h1 n) ((h.put hs2 n).del s) fun e=>?_
 rw [putE_mem,delE_mem h hg,delE_mem (h.put hs2 n) h2,putE_mem]
 constructor
 ·rintro (rfl | ⟨a,b⟩)
  ·exact ⟨.inl rfl,hne⟩
  ·exact ⟨.inr a,b⟩
 ·rintro ⟨rfl | a,b⟩
  ·exact .inl rfl
  ·exact .inr ⟨a,b⟩
section
variable {lo N:Nat} {W W':World} {r:Nat} {T:Tr} {p:Nat} {Lv:Value} {nb:Int→Nat} {ev:Int→Value} {uv:Int→Int} {B:Nat}
theorem Tr.ext4 {a b:Tr} (h1:a.most=b.most) (h2:a.made=b.made) (h3:∀ k,a.nd k=b.nd k) (h4:a.pool=b.pool):a=b:=by
 obtain ⟨a1,a2,a3,a4⟩:=a
 obtain ⟨b1,b2,b3,b4⟩:=b
 simp only at h1 h2 h3 h4
 subst h1 h2 h4
 obtain rfl:a3=b3:=funext h3
 rfl
theorem Uq.shift (hu:Uq T uv) (hw:Wf B T) {dir tq n:Int} {d i x:Nd} {s s2:ByteArray} (hd:T.nd dir=some d) (hg:getE d.ins s=some n) (hi:T.nd tq=some i) (hik:i.kind=1) (hs2:getE i.ins s2=none) (hx:T.nd n=some x) (hx0:0 < x.names) (hdn:dir≠n) (g:Int→Int) (g1:x.kind=1→g n=tq) (g2:∀ k,k≠n→g k=uv k):Uq ((T.give tq s2 n).take dir s) g:=by
 have hnd:=Tr.shift_nd hd hg hi (hw.k.srt tq i hi) hs2 hx hx0 hdn
 intro k z hz
 obtain ⟨z1,z2⟩:=Tr.dir_some.1 hz
 rw [Tr.up_dir z1 z2]
 rw [hnd] at z1
 by_cases e:k=n
 ·rw [if_pos e] at z1
  cases z1
  have z3:x.kind=1:=z2
  rw [e,g1 z3]
  simp [z3]
  omega
 ·rw [if_neg e] at z1
  rw [g2 k e]
  by_cases e2:k=dir
  ·rw [if_pos e2] at z1
   cases z1
   rw [hu k d (Tr.dir_some.2 ⟨by rw [e2];exact hd,z2⟩),Tr.up_dir (x:=d) (by rw [e2];exact hd) z2]
  ·rw [if_neg e2] at z1
   by_cases e3:k=tq
   ·rw [if_pos e3] at z1
    cases z1
    rw [hu k i (Tr.dir_some.2 ⟨by rw [e3];exact hi,hik⟩),Tr.up_dir (by rw [e3];exact hi) hik]
   ·rw [if_neg e3] at z1
    rw [hu k z (Tr.dir_some.2 ⟨z1,z2⟩),Tr.up_dir z1 z2]
theorem shift_eq (hw:Wk B T) {dir tq n:Int} {d i x:Nd} {s s2:ByteArray} (hd:T.nd dir=some d) (hg:getE d.ins s=some n) (hi:T.nd tq=some i) (hs2:getE i.ins s2=none) (hx:T.nd n=some x) (hx0:0 < x.names) (hdn:dir≠n) (htn:tq≠n) :
  ∃ i2,((T.hold n).take dir s).nd tq=some i2∧getE i2.ins s2=none∧((T.hold n).take dir s).nd n=some { x with holds:=x.holds + 1,names:=x.names - 1 } ∧
   (((T.hold n).take dir s).give tq s2 n).nd n=some { x with holds:=x.holds + 1,up:=if x.kind=1 then tq else x.up } ∧
   (((T.hold n).take dir s).give tq s2 n).set n (some { x with up:=if x.kind=1 then tq else x.up })=(T.give tq s2 n).take dir s:=by
 have hh:∀ k,(T.hold n).nd k=if k=n then some { x with holds:=x.holds + 1 } else T.nd k:=fun k=>by
  simp only [Tr.hold,hx,Tr.set]
 have hd1:(T.hold n).nd dir=some d:=by rw [hh,if_neg hdn];exact hd
 have hx1:(T.hold n).nd n=some { x with holds:=x.holds + 1 }:=by rw [hh,if_pos rfl]
 have ht:=Tr.take_nd hd1 hg hx1 hdn
 have hx2:((T.hold n).take dir s).nd n=some { x with holds:=x.holds + 1,names:=x.names - 1 }:=by rw [ht,if_pos rfl,if_pos (.inr (by simp))]
 have hi2:((T.hold n).take dir s).nd tq=some (if tq=dir then { d with ins:=delE d.ins s } else i):=by
  rw [ht,if_neg htn,hh,if_neg htn]
  by_cases e:tq=dir
  ·rw [if_pos e,if_pos e]
  ·rw [if_neg e,if_neg e];exact hi
 have hSd:=hw.srt dir d hd
 have hg2:getE (if tq=dir then { d with ins:=delE d.ins s } else i:Nd).ins s2=none:=by
  by_cases e:tq=dir
  ·rw [if_pos e]
   have:i=d:=by rw [e,hd] at hi;cases hi;rfl
   subst this
   simp only
   rw [delE_get hSd hg]
   split
   ·rfl
   ·exact hs2
  ·rw [if_neg e];exact hs2
 have hgn:=Tr.give_nd hi2 hx2 s2
 have hnm:({ x with holds:=x.holds + 1,names:=x.names - 1 }:Nd).named tq={ x with holds:=x.holds + 1,up:=if x.kind=1 then tq else x.up }:=by
  simp only [Nd.named]
  congr 1
  omega
 refine ⟨_,hi2,hg2,hx2,by rw [hgn,if_pos rfl,hnm],?_⟩
 have hrest:=Tr.take_rest hd1 hg hx1 hdn
 have hgr:=Tr.give_rest hi2 hx2 s2
 have hgr':=Tr.give_rest hi hx s2
 have hnd:=Tr.shift_nd hd hg hi (hw.srt tq i hi) hs2 hx hx0 hdn
 have hgn':=Tr.give_nd hi hx s2
 have hx9:(T.give tq s2 n).nd n=some (x.named tq):=by rw [hgn',if_pos rfl]
 have hrest':((T.give tq s2 n).take dir s).made=T.made∧((T.give tq s2 n).take dir s).most=T.most∧((T.give tq s2 n).take dir s).pool=T.pool:=by
  have hd9:(T.give tq s2 n).nd dir=some { d with ins:=if dir=tq then putE d.ins s2 n else d.ins }:=by
   rw [hgn',if_neg hdn]
   by_cases e:dir=tq
   ·rw [if_pos e,if_pos e]
    rw [e,hi] at hd;cases hd;rfl
   ·rw [if_neg e,if_neg e];exact hd
  have hg9:getE (if dir=tq then putE d.ins s2 n else d.ins) s=some n:=by
   by_cases e:dir=tq
   ·rw [if_pos e]
    have:i=d:=by rw [← e,hd] at hi;cases hi;rfl
    subst this
    rw [putE_get hSd hs2]
    split
    ·rfl
    ·exact hg
   ·rw [if_neg e];exact hg
  have h:=Tr.take_rest hd9 hg9 hx9 hdn
  rw [if_pos (.inl (by simp only [Nd.named];omega))] at h
  exact ⟨h.1.trans hgr'.1,h.2.1.trans hgr'.2.1,h.2.2.trans hgr'.2.2⟩
 rw [if_pos (.inr (by simp))] at hrest
 have hb:(T.hold n).made=T.made∧(T.hold n).most=T.most∧(T.hold n).pool=T.pool:=by simp only [Tr.hold,hx,Tr.set];exact ⟨trivial,trivial,trivial⟩
 refine Tr.ext4 ?_ ?_ (fun k=>?_) ?_
 ·simp only [Tr.set];rw [hgr.2.1,hrest.2.1,hb.2.1,hrest'.2.1]
 ·simp only [Tr.set];rw [hgr.1,hrest.1,hb.1,hrest'.1]
 ·rw [hnd]
  by_cases e:k=n
  ·rw [e,Tr.set_same,if_pos rfl]
  ·rw [Tr.set_other _ _ e,if_neg e,hgn,if_neg e,ht,if_neg e,hh,if_neg e]
   by_cases e2:k=dir
   ·rw [if_pos e2]
    by_cases e3:k=tq
    ·have e4:tq=dir:=e3.symm.trans e2
     have:i=d:=by rw [e4,hd] at hi;cases hi;rfl
     subst this
     rw [if_pos e3,if_pos e4,if_pos e4.symm]
     simp only
     rw [put_del_comm hSd hg hs2,if_pos e2]
    ·have e4:¬ dir=tq:=fun e4=>e3 (e2.trans e4)
     rw [if_neg e3,if_neg e4,if_pos e2]
   ·rw [if_neg e2]
    by_cases e3:k=tq
    ·have e4:¬ tq=dir:=fun e4=>e2 (e3.trans e4)
     rw [if_pos e3,if_neg e4,if_neg e2,if_pos e3]
    ·rw [if_neg e3,if_neg e2,if_neg e3]
 ·simp only [Tr.set];rw [hgr.2.2,hrest.2.2,hb.2.2,hrest'.2.2]
theorem shift_tail {W0:World} (h:DtI lo N W r T p Lv nb ev uv) (hu:Uq T uv) (hR:Rx lo W0 W) (hw:Wf B T) (hB:B≤880) {dir tq n:Int} {d i x:Nd} {s s2:ByteArray} (hd:T.nd dir=some d) (hg:getE d.ins s=some n) (hi:T.nd tq=some i) (hik:i.kind=1) (hs2:getE i.ins s2=none) (hx:T.nd n=some x) (htn:tq≠n) (hdw:(kl dir).wf=true) (htw:(kl tq).wf=true) :
  W.cell? ⟨nb n,11,none⟩=some (I (x.holds:Int))∧W.frozen? ⟨nb n,11,none⟩=false∧(x.holds:Int)≤900∧∃ X,W.setCell ⟨nb n,11,none⟩ (I ((x.holds:Int) + 1))=X ∧
   Hid (Calls Tryz.prog 132 #[P0 r,I dir,.string s] X fun e w1=>e=.returned (.tuple #[]) ∧
    Hid (Calls Tryz.prog 131 #[P0 r,I tq,.string s2,I n] w1 fun e w2=>e=.returned (.tuple #[])∧w2.cell? ⟨nb n,11,none⟩=some (I ((x.holds:Int) + 1))∧w2.frozen? ⟨nb n,11,none⟩=false ∧
     Hid (De lo N W0 (w2.setCell ⟨nb n,11,none⟩ (I (x.holds:Int))) r ((T.give tq s2 n).take dir s)))):=by
 have hdn:dir≠n:=by
  rintro rfl
  exact hw.noself hd (getE_some hg)
 have hn1:n≠1:=by
  rintro rfl
  exact hw.noroot hd (getE_some hg)
 have hx0:0 < x.names:=by
  have:=hw.k.num n x hx
  have:=cntE_pos hw.k hd (getE_some hg)
  simp at this
  omega
 obtain ⟨i2,e1,e2,e3,e4,e5⟩:=shift_eq hw.k hd hg hi hs2 hx hx0 hdn htn
 obtain ⟨-,-,-,-,-,-,-,-,-,-,-,c11,-,cf⟩:=dcells (h.hn n x hx).1
 have hbb:=(hw.k.bnd n x hx).2.1
 refine ⟨c11,cf 11,by omega,_,rfl,hide ?_⟩
 obtain ⟨h1,R1⟩:=h.store (y:={ x with holds:=x.holds + 1 }) hx 11 (I ((x.holds:Int) + 1)) (by simp [dnC,nm1]) rfl
 have hT1:T.set n (some { x with holds:=x.holds + 1 })=T.hold n:=by simp only [Tr.hold,hx]
 rw [hT1] at h1
 have hw1:=(hw.hold n).k
 have hh:∀ k,(T.hold n).nd k=if k=n then some { x with holds:=x.holds + 1 } else T.nd k:=fun k=>by simp only [Tr.hold,hx,Tr.set]
 have hpl:=hw1.pol
 refine (out_any h1 hw1 (by omega) dir n s d { x with holds:=x.holds + 1 } (by rw [hh,if_neg hdn];exact hd) (by rw [hh,if_pos rfl]) hdn hn1 hg hx0 (by omega) hdw).mono ?_
 rintro e w1 ⟨rfl,ev1,h2,R2⟩
 refine ⟨rfl,hide ?_⟩
 have hw2:Wk (B + 1) ((T.hold n).take dir s):=hw1.take (by rw [hh,if_neg hdn];exact hd) hg (by rw [hh,if_pos rfl]) hdn (fun _ h0=>by simp at h0)
 refine (put_any h2 hw2 (by omega) tq n s2 i2 _ e1 e3 htn e2 htw).mono ?_
 rintro e w2 ⟨rfl,ev2,h3,R3⟩
 obtain ⟨-,-,-,-,-,-,-,-,-,-,-,q11,-,qf⟩:=dcells (h3.hn n _ e4).1
 refine ⟨rfl,by rw [q11];simp,qf 11,hide ?_⟩
 obtain ⟨h4,R4⟩:=h3.store (y:={ x with up:=if x.kind=1 then tq else x.up }) e4 11 (I (x.holds:Int)) (by simp [dnC,nm1]) rfl
 rw [e5] at h4
 exact ⟨⟨p,Lv,nb,ev2,_,h4,hu.shift hw hd hg hi hik hs2 hx hx0 hdn _ (fun hk=>by simp [hk]) (fun k hk=>by simp [hk])⟩,(((hR.trans R1).trans R2).trans R3).trans R4⟩
end
open Go.RowKit Go.Maps
attribute [local go_sem ↓] Go.wp_at_zero Go.wp_at_succ
def deep (T:Tr):Nat→Int→Nat
 | 0,_=>0
 | f + 1,c=>if T.up c=0 ∨ T.up c=c then 0 else deep T f (T.up c) + 1
theorem deep_ab {T:Tr}:∀ {l:List Int} {c:Int} {f:Nat},Ab T c l→l.length≤f→deep T f c=l.length
 | [],_,0,_,_=>rfl
 | [],_,f + 1,h,_=>by
  simp only [Ab] at h
  simp [deep,h]
 | _ :: _,_,0,_,hl=>by simp at hl
 | u :: l,c,f + 1,h,hl=>by
  obtain ⟨h1,h2,h3,h4⟩:=h
  rw [deep,if_neg (by rw [h1];rintro (e | e);exact h2 e;exact h3 e),h1,deep_ab h4 (by simp at hl;omega)]
  rfl
section
variable {lo N:Nat} {W W':World} {r:Nat} {T:Tr} {p:Nat} {Lv:Value} {nb:Int→Nat} {ev:Int→Value} {uv:Int→Int} {B:Nat}
theorem up_dir (hw:Wf B T) {c:Int} {x:Nd} (hx:T.dir c=some x):T.up c≠0∧∃ y,T.dir (T.up c)=some y:=by
 obtain ⟨h1,h2⟩:=Tr.dir_some.1 hx
 have hk:=hw.k.key c x h1
 by_cases h0:x.names=0
 ·have e:T.up c=c:=by rw [Tr.up,hx];simp [h0]
  rw [e]
  exact ⟨by omega,x,hx⟩
 ·have e:T.up c=x.up:=by rw [Tr.up,hx];simp [h0]
  rw [e]
  by_cases hc:c=1
  ·subst hc
   obtain ⟨y,g1,g2,g3,g4⟩:=hw.root
   rw [h1] at g1
   cases g1
   rw [g4]
   exact ⟨by decide,x,hx⟩
  ·obtain ⟨-,d,s,g1,g2⟩:=hw.upd c x h1 h2 hc (by omega)
   have:=hw.k.key _ d g1
   exact ⟨by omega,d,Tr.dir_some.2 ⟨g1,(hw.emp _ d g1 (List.ne_nil_of_mem g2)).1⟩⟩
theorem within_any (h:DtI lo N W r T p Lv nb ev uv) (hu:Uq T uv) (hw:Wf B T) (hB:B≤890) (to' n:Int) (ht:(kl to').wf=true) (hn:(kl n).wf=true) (x y:Nd) (hx:T.dir to'=some x) (hy:T.dir n=some y) (l:List Int) (hl:Ab T to' l) (f:Bool) (hf:decide (n ∈ l)=f) :
  Calls Tryz.prog 21 #[P0 r,I to',I n] W fun e w'=>e=.returned (.bool f)∧w'=W:=by
 obtain ⟨L,hL⟩:∃ L,L=l.length:=⟨_,rfl⟩
 have HI:Hid (Hid (Ab T to' l∧l.length≤L∧(∃ z,T.dir to'=some z)∧decide (n ∈ l)=f)):=hide (hide ⟨hl,by omega,⟨x,hx⟩,hf⟩)
 have HC:=hide (fun c z (hc:T.dir c=some z)=>show W.cell? ⟨nb c,9,none⟩=some (I (T.up c)) by
  rw [← hu c z hc]
  exact (dcells (h.hn c z (Tr.dir_some.1 hc).1).1).2.2.2.2.2.2.2.2.2.1)
 have HAT:=hide (fun c z (hc:T.dir c=some z)=>hide (at_any h hw.k (by omega) c (hw.k.wf (by omega) (Tr.dir_some.1 hc).1) (P0 (nb c)) (by rw [atV,(Tr.dir_some.1 hc).1])))
 have HW:=hide hw
 have HD1:=hide (dir_any h hw.k (by omega) to' ht (P0 (nb to')) (by rw [dirV,hx]))
 have HD2:=hide (dir_any h hw.k (by omega) n hn (P0 (nb n)) (by rw [dirV,hy]))
 clear h hu hw hx hy hl hf hL
 go_enter Tryz.func21,Tryz.ntmps21
 go_wp2_with fail
 refine (unhide HD1).mono ?_
 rintro e w1 ⟨rfl,hw1⟩
 rw [hw1]
 clear hw1
 go_wp2_with fail
 refine (unhide HD2).mono ?_
 rintro e w1 ⟨rfl,hw1⟩
 rw [hw1]
 clear hw1
 go_wp2_with fail
 go_loopw [1,7] (fun s1 s7 wr=>∃ (c:Int) (m:List Int),s1=I c∧s7=P0 (nb c)∧wr=W∧Hid (Ab T c m∧m.length≤L∧(∃ z,T.dir c=some z)∧decide (n ∈ m)=f)) (fun s1 _ _=>deep T L (intOf s1))
 case atStart=>exact ⟨to',l,rfl,rfl,rfl,unhide HI⟩
 case round =>
  obtain ⟨c,m,rfl,rfl,rfl,hI⟩:=hrel
  obtain ⟨i1,i2,⟨z,i3⟩,i4⟩:=unhide hI
  have c9:=unhide HC c z i3
  obtain ⟨u0,y1,hy1⟩:=up_dir (unhide HW) i3
  cases m with
  | nil =>
   simp only [Ab] at i1
   have hu1:T.up c=c:=i1.resolve_left u0
   rw [hu1] at c9
   have hf0:f=false:=by rw [← i4];simp
   have Hf:=hide hf0
   clear i1 i2 i3 i4 hu1 u0 hy1 hf0 hI
   generalize nb c=b at *
   go_wp2_with fail
   go_ret
   exact ⟨by rw [unhide Hf];rfl,rfl⟩
  | cons u m =>
   obtain ⟨g1,g2,g3,g4⟩:=i1
   rw [g1] at c9 hy1
   have hd1:=deep_ab (f:=L) (show Ab T c (u :: m) from ⟨g1,g2,g3,g4⟩) i2
   have hd2:=deep_ab (f:=L) g4 (by simp at i2;omega)
   have hlt:deep T L u < deep T L c:=by rw [hd1,hd2];simp
   have q1:(u != c)=true:=by simpa using g3
   have q2:(u == c)=false:=by simpa using g3
   have q3:¬ u=c:=g3
   have HL:=hide hlt
   by_cases hun:u=n
   ·have hf1:f=true:=by rw [← i4,hun];simp
    have Hf:=hide hf1
    have q4:(u == n)=true:=by simpa using hun
    have Hun:=hide hun
    clear g1 g2 g3 g4 i2 i3 i4 hd1 hd2 hlt u0 hy1 hf1 hun hI
    generalize nb c=b at *
    go_wp2_with fail
    go_ret
    exact ⟨by rw [unhide Hf];rfl,rfl⟩
   ·have q4:(u == n)=false:=by simpa using hun
    have HA:=unhide HAT u y1 hy1
    have HI2:Hid (Ab T u m∧m.length≤L∧(∃ z,T.dir u=some z)∧decide (n ∈ m)=f):=hide ⟨g4,by simp at i2;omega,⟨y1,hy1⟩,by
     have e:¬ n=u:=fun e=>hun e.symm
     rw [← i4]
     simp [e]⟩
    clear g1 g2 g3 g4 i2 i3 i4 hd1 hd2 hlt u0 hy1 hI
    generalize nb c=b at *
    go_wp2_with fail
    refine (unhide HA).mono ?_
    rintro e w2 ⟨rfl,hw2⟩
    rw [hw2]
    clear hw2
    go_wp2_with fail
    exact ⟨⟨u,m,rfl,rfl,trivial,HI2⟩,by simp only [intOf];exact unhide HL⟩
end
end Go.Proofs.YtlngeaacjbdmhaaGreat.Rf
