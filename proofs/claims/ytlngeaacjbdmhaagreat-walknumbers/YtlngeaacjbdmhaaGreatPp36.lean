/-
 The document's part: one part of a path is gone along.
-/
import Derived.Test.YtlngeaacjbdmhaaGreatPp35
set_option maxRecDepth 100000
set_option maxHeartbeats 1000000
namespace Go.Proofs.YtlngeaacjbdmhaaGreat.Wl
open Go.RowKit
attribute [local go_sem ↓] Go.wp_at_zero Go.wp_at_succ
section
variable {lo R:Nat} {W W0:World} {r b:Nat} {E:En} {rs:List Mt.Rm} {Z:Re} {a:Option Addr} {cap:Nat} {p:Bytes} {rest:List Bytes} {slash:Bool} {fol s:Nat} {am an dm dn:Int} {last:Bytes}
theorem rstat_ahead (h:Rd lo R W0 r E rs) {n:Int} (hn:(kl n).wf=true) {v:Value} {f:Bool} (hv:E.T.stat n=v) (hf:(E.T.nd n).isSome=f) (V:World) (g:Below W0.heap.size W0 V) :
  Calls Tryz.prog 88 #[P0 r,I n] (V.alloc zst).drew fun e w'=>e=.returned (.tuple #[v,.bool f])∧Hid (Below V.heap.size V w')∧w'.heap[V.heap.size]?=some zst:=by
 have g1:Below V.heap.size V (V.alloc zst).drew:=below_drew ((Below.refl _ V).alloc (Nat.le_refl _) _)
 refine (stat_R h hn hv hf (V.alloc zst).drew (g.trans (g1.mono g.size))).mono ?_
 rintro e w' ⟨rfl,h2⟩
 refine ⟨rfl,g1.trans ((unhide h2).mono (by show V.heap.size≤(V.alloc zst).heap.size;simp)),((unhide h2).block _ (by show V.heap.size < (V.alloc zst).heap.size;simp)).trans ?_⟩
 exact heap_alloc_new V zst
theorem rstat_behind (h:Rd lo R W0 r E rs) {n:Int} (hn:(kl n).wf=true) {v:Value} {f:Bool} (hv:E.T.stat n=v) (hf:(E.T.nd n).isSome=f) (V:World) (g:Below W0.heap.size W0 V) :
  Calls Tryz.prog 88 #[P0 r,I n] V.drew fun e w'=>e=.returned (.tuple #[v,.bool f])∧Hid (Below V.heap.size V w'):=by
 refine (stat_R h hn hv hf V.drew (below_drew g)).mono ?_
 rintro e w' ⟨rfl,h2⟩
 exact ⟨rfl,(below_drew (Below.refl _ V)).trans (unhide h2)⟩
theorem set7z {X:World} {y:Nat} {t:TypeId} {a0 a1 a2 a3 a4 a5 a6:Value} (h:X.heap[y]?=some (.cells #[a0,a1,a2,a3,a4,a5,a6] t)) (g:Below W0.heap.size W0 X) (hy:W0.heap.size≤y) (v0 v1 v2 v3 v4 v5 v6:Value) :
  ∃ Y,((((((X.setCell ⟨y,0,none⟩ v0).setCell ⟨y,1,none⟩ v1).setCell ⟨y,2,none⟩ v2).setCell ⟨y,3,none⟩ v3).setCell ⟨y,4,none⟩ v4).setCell ⟨y,5,none⟩ v5).setCell ⟨y,6,none⟩ v6=Y∧Y.heap[y]?=some (.cells #[v0,v1,v2,v3,v4,v5,v6] t)∧Tz y W0 X Y:=by
 obtain ⟨Y,hY,h1,h2⟩:=set7 h v0 v1 v2 v3 v4 v5 v6
 refine ⟨Y,hY,h1,fun k hk=>?_,?_,h2 _ _ g hy⟩
 ·rw [← hY,Below.heap_setCell _ _ _ _ hk,Below.heap_setCell _ _ _ _ hk,Below.heap_setCell _ _ _ _ hk,Below.heap_setCell _ _ _ _ hk,Below.heap_setCell _ _ _ _ hk,Below.heap_setCell _ _ _ _ hk,Below.heap_setCell _ _ _ _ hk]
 ·rw [← hY];simp
theorem Ro.tz {y:Nat} {X Y:World} {q:List Bytes} {pb po:Nat} (h:Ro X b (some ⟨pb,po,none⟩) q) (hy:pb≠y) (t:Tz y W0 X Y):Ro Y b (some ⟨pb,po,none⟩) q:=by
 refine ⟨fun k s hk=>?_,h.2⟩
 obtain ⟨pb',off,h1,h2,h3⟩:=h.1 k s hk
 injection h1 with h1
 injection h1 with e1 e2
 subst e1
 subst e2
 exact ⟨pb,po,rfl,by rw [t.sz];exact h2,t.cell hy h3⟩
theorem refusal_eq (E:En) (n:Int) {mo u g:Int} (hk:E.T.kindOf n=1) (hx:∀ x,E.T.nd n=some x→mo=x.mode∧u=x.uid∧g=x.gid):E.refusal n=if (Kr.may E.cu E.cg mo u g 1)=true then 0 else 34:=by
 obtain ⟨x,hxx,-⟩:=kind_wf hk
 obtain ⟨rfl,rfl,rfl⟩:=hx x hxx
 unfold En.refusal En.may
 rw [if_pos hk,hxx]
theorem part_any (D:Rd lo R W0 r E rs) (h0:W0.heap.size≤b) (hrw:(kl E.rn).wf=true) (hr0:Mt.any E.es (Mt.isAt E.rm E.rn)=false) (h:Pt E W0 b r R Z W a cap (p :: rest) slash fol s am an dm dn last) :
  Calls Tryz.prog 104 #[P0 b] W fun e w'=>Po E W0 b r R Z fol (rest.length + 1) s e w':=by
 have hbl:=h.rn.lt
 obtain ⟨pb,off,pp,rfl,npb,hpbl,hcell,hpp,hro⟩:=h.ro.tail cap
 have hle:rest.length + 1≤cap:=h.le
 have hro:=hro hle
 have hmx:=h.mx
 unfold maxLen at hmx
 obtain ⟨N,hN⟩:∃ N,N=rest.length:=⟨_,rfl⟩
 have hwt:=wt_tail h.wt
 have hNl:N≤5000:=by have:=wt_len rest;omega
 have hrn:Rn W b r R E am an (.slice (some ⟨pb,off,none⟩) (N + 1) cap) slash fol s dm dn last:=by rw [hN];exact h.rn
 have hsb:s≤300000:=by have:=h.sb;have:=h.fo;simp only [List.length_cons] at *;omega
 obtain ⟨c0,-,-,-,c4,c5,c6,c7,c8,c9,cf⟩:=hrn.c1
 obtain ⟨-,-,c12,-⟩:=hrn.c2
 have cf12:=cf 12
 obtain ⟨X,hX,rX,tX⟩:=hrn.stepped h.be h0
 obtain ⟨u0,-,-,-,u4,u5,u6,u7,u8,u9,uf⟩:=rX.c1
 have hXW:W.heap.size≤X.heap.size:=Nat.le_of_eq tX.sz.symm
 obtain ⟨av,mo,uu,gg,ll,zz,hst,hsx⟩:=stat_shape E.T an
 obtain ⟨f,hf⟩:∃ f,(E.T.nd an).isSome=f:=⟨_,rfl⟩
 obtain ⟨K,hK⟩:∃ K,K=E.T.kindOf an:=⟨_,rfl⟩
 rw [← hK] at hst
 have H1:=hide (rstat_ahead D h.wf hst hf X tX.be)
 have H2:=hide (rstat_behind D h.wf hst hf X tX.be)
 unfold zst at H1
 have HX:=hide (⟨rX,tX,tX.ro hro⟩:_∧_∧_)
 have HM:=hide (⟨D,h,hsx,hK,hN,hwt⟩:_∧_∧_∧_∧_∧_)
 have hbX:b < X.heap.size:=rX.lt
 have n1:b≠X.heap.size:=by omega
 have n2:X.heap.size≠b:=by omega
 obtain ⟨M,hM⟩:∃ M,M=N + 1:=⟨_,rfl⟩
 rw [← hM] at c8
 have m1:(0:Int) < (M:Int):=by omega
 have m2:(1:Int)≤(M:Int):=by omega
 have m3:(M:Int)≤(cap:Int):=by omega
 have m4:M - 1=N:=by omega
 have m7:cap≤9223372036854775807:=hmx
 have Hpp:=hide hpp
 have HMN:=hide hM
 clear D h hst hsx hf hK hro hN rX tX hrn hwt hle hmx cf uf hpp hM u8
 go_enter Tryz.func104,Tryz.ntmps104
 go_upto_region 2 with fail
 go_cut [5] from 17 to 21 (fun s5 wc=>s5=.slice (some ⟨pb,pp,none⟩) N (cap - 1)∧wc=W)
 case first =>
  have hpp:=unhide Hpp
  have hMN:=unhide HMN
  by_cases hlc:cap=1
  ·rw [if_pos hlc] at hpp
   simp only [Option.some.injEq,Addr.mk.injEq,true_and,and_true] at hpp
   subst hpp
   have hM1:M=1:=by omega
   have hN0:N=0:=by omega
   subst hlc
   subst hM1
   subst hN0
   clear hMN HMN m4
   go_wp2_with fail
   go_meet
   case rel=>exact ⟨rfl,rfl⟩
  ·rw [if_neg hlc] at hpp
   simp only [Option.some.injEq,Addr.mk.injEq,true_and,and_true] at hpp
   subst hpp
   have hlc2:¬ 1=cap:=fun e=>hlc e.symm
   clear hMN
   go_wp2_with fail
   go_meet
   case rel=>first | exact ⟨rfl,rfl⟩ | exact ⟨by rw [m4],rfl⟩
 case rest =>
 obtain ⟨rfl,e1⟩:=hcut
 rw [e1]
 clear e1 wc c8 hcell m1 m2 m3 m4 Hpp HMN
 go_upto_region 4 with fail
 go_cut [6,7] from 29 to 41 (fun s6 s7 wc=>∃ y,s6=P0 y∧s7=.bool f∧Hid (wc.heap[y]?=some (.cells #[I av,I K,I mo,I uu,I gg,I ll,I zz] 33)∧Below X.heap.size X wc∧X.heap.size≤y))
 case first =>
  go_region_held3 (fun w'=>w'.cell? ⟨b,0,none⟩=some (P0 r)∧w'.cell? ⟨b,7,none⟩=some (I an)) (go_keep)
   (first
    | (go_at_call 88;refine (unhide H1).mono ?_;rintro e w2 ⟨rfl,HB2,hz⟩;obtain ⟨r0,r1,r2,r3,r4,r5,r6,rf⟩:=cells7 hz;have HZ:=hide hz;clear hz;have q0:=cell_be u0 (unhide HB2);have q1:=cell_be u7 (unhide HB2))
    | (go_at_call 88;refine (unhide H2).mono ?_;rintro e w2 ⟨rfl,HB2⟩;have q0:=cell_be u0 (unhide HB2);have q1:=cell_be u7 (unhide HB2)))
  ·rename_i hHeld
   clear hHeld q0 q1 H1 H2
   have HY:=hide (⟨heap_alloc_new w2 (.cells #[I av,I K,I mo,I uu,I gg,I ll,I zz] 33),(unhide HB2).alloc (unhide HB2).size (.cells #[I av,I K,I mo,I uu,I gg,I ll,I zz] 33),(unhide HB2).size⟩:_∧_∧_)
   go_wp2_with fail
   go_meet
   case rel=>exact ⟨w2.heap.size,rfl,rfl,HY⟩
  ·rename_i hHeld
   clear hHeld q0 q1 H1 H2
   obtain ⟨Y,hY,hYb,hYB⟩:=set7 (unhide HZ) (I av) (I K) (I mo) (I uu) (I gg) (I ll) (I zz)
   rw [hY]
   have HY:=hide (⟨hYb,hYB _ _ (unhide HB2) (Nat.le_refl _),Nat.le_refl _⟩:_∧_∧X.heap.size≤X.heap.size)
   clear hY hYb hYB r0 r1 r2 r3 r4 r5 r6 rf HZ
   go_wp2_with fail
   go_meet
   case rel=>exact ⟨X.heap.size,rfl,rfl,HY⟩
 case rest =>
 obtain ⟨y,rfl,rfl,HY⟩:=hcut
 obtain ⟨Y,hY⟩:∃ Y,Y=wc:=⟨_,rfl⟩
 rw [← hY] at HY ⊢
 clear hY wc H1 H2 hX c0 c4 c5 c6 c7 c9 c12 cf12 u0 u4 u5 u6 u7 u9 n1 n2
 obtain ⟨hYb,hYB,hle⟩:=unhide HY
 obtain ⟨e0,e1,e2,e3,e4,e5,e6,-⟩:=cells7 hYb
 obtain ⟨rX,tX,roX⟩:=unhide HX
 have rY:=rX.below hYB
 have beY:Below W0.heap.size W0 Y:=tX.be.trans (hYB.mono tX.be.size)
 have roY:=roX.below hYB
 obtain ⟨u0,-,-,-,u4,u5,u6,u7,u8,u9,-⟩:=rY.c1
 have hby:b < y:=by omega
 have nby:b≠y:=by omega
 have HYY:=hide (⟨rY,beY,roY,hYb⟩:_∧_∧_∧_)
 clear hYb hYB rX tX roX rY beY roY HY HX
 by_cases hk:K=1
 case neg =>
  have hk1:(K == 1)=false:=by simpa using hk
  go_wp2_with fail
  go_ret2
  obtain ⟨rY,beY,-⟩:=unhide HYY
  obtain ⟨D,h,hsx,hK,hN,hwt⟩:=unhide HM
  have hre:E.refusal an=37:=by unfold En.refusal;rw [← hK,if_neg hk]
  have hon:=h.on
  rw [on_no (by omega),hre] at hon
  refine ⟨37,false,rfl,.inl ⟨by omega,rfl,?_,?_,?_,beY,_,_,_,_,_,_,_,_,rY⟩⟩ <;> rw [← hon]
 have hre:E.refusal an=if (Kr.may E.cu E.cg mo uu gg 1)=true then 0 else 34:=refusal_eq E an ((unhide HM).2.2.2.1 ▸ hk) (unhide HM).2.2.1
 obtain ⟨Ma,hMa⟩:∃ Ma,Kr.may E.cu E.cg mo uu gg 1=Ma:=⟨_,rfl⟩
 have HMa:=hide (fun w=>Kr.rmay_any E.cu E.cg av K mo uu gg ll zz 1 w)
 rw [hMa] at HMa hre
 have Hre:=hide hre
 clear hMa hre
 rw [hk] at HMa e1
 clear hk
 go_upto_region 7 with fail
 go_cut [51] from 45 to 50 (fun s51 wc=>s51=.bool (!Ma)∧Below Y.heap.size Y wc)
 case first =>
  go_region_held3 (fun w'=>w'.cell? ⟨b,4,none⟩=some (I E.cu)∧w'.cell? ⟨b,5,none⟩=some (I E.cg)∧w'.cell? ⟨y,0,none⟩=some (I av)∧w'.cell? ⟨y,1,none⟩=some (I 1)∧w'.cell? ⟨y,2,none⟩=some (I mo)∧w'.cell? ⟨y,3,none⟩=some (I uu)∧w'.cell? ⟨y,4,none⟩=some (I gg)∧w'.cell? ⟨y,5,none⟩=some (I ll)∧w'.cell? ⟨y,6,none⟩=some (I zz)) (go_keep)
   (first
    | (go_at_call 160;refine (unhide HMa _).mono ?_;rintro e w3 ⟨rfl,hB3⟩;have HB3:=hide hB3;clear hB3;have p2:=cell_be (W:=Y.drew) u4 (unhide HB3);have p3:=cell_be (W:=Y.drew) u5 (unhide HB3);have s0:=cell_be (W:=Y.drew) e0 (unhide HB3);have s1:=cell_be (W:=Y.drew) e1 (unhide HB3);have s2:=cell_be (W:=Y.drew) e2 (unhide HB3);have s3:=cell_be (W:=Y.drew) e3 (unhide HB3);have s4:=cell_be (W:=Y.drew) e4 (unhide HB3);have s5:=cell_be (W:=Y.drew) e5 (unhide HB3);have s6:=cell_be (W:=Y.drew) e6 (unhide HB3)))
  have HZZ:=hide ((below_drew (Below.refl Y.heap.size Y)).trans (unhide HB3))
  clear u4 u5 e0 e1 e2 e3 e4 e5 e6 p2 p3 s0 s1 s2 s3 s4 s5 s6 HB3
  go_wp2_with fail
  go_meet
  case rel=>exact ⟨rfl,unhide HZZ⟩
 case rest =>
 obtain ⟨rfl,hBV⟩:=hcut
 obtain ⟨V,hV⟩:∃ V,V=wc:=⟨_,rfl⟩
 rw [← hV] at hBV ⊢
 clear hV wc u0 u4 u5 u6 u7 u8 u9 e0 e1 e2 e3 e4 e5 e6 HMa
 obtain ⟨rY,beY,roY,gY⟩:=unhide HYY
 have rV:=rY.below hBV
 have beV:Below W0.heap.size W0 V:=beY.trans (hBV.mono beY.size)
 have roV:=roY.below hBV
 have gV:=(hBV.block _ (lt_of_heap gY)).trans gY
 clear HYY rY beY roY gY hBV
 cases Ma with
 | false =>
  have HVV:=hide (⟨rV,beV⟩:_∧_)
  clear rV beV roV gV
  go_wp2_with fail
  go_ret2
  obtain ⟨rV,beV⟩:=unhide HVV
  obtain ⟨D,h,hsx,hK,hN,hwt⟩:=unhide HM
  have hre:E.refusal an=34:=by rw [unhide Hre];rfl
  have hon:=h.on
  rw [on_no (by omega),hre] at hon
  refine ⟨34,false,rfl,.inl ⟨by omega,rfl,?_,?_,?_,beV,_,_,_,_,_,_,_,_,rV⟩⟩ <;> rw [← hon]
 | true =>
  have hre:E.refusal an=0:=by rw [unhide Hre];rfl
  have Hre0:=hide hre
  clear Hre hre
  obtain ⟨L,hL,rL,tL⟩:=rV.lefted beV h0 (.slice (some ⟨pb,pp,none⟩) N (cap - 1))
  have roL:=tL.ro roV
  have gL:=(tL.kp y (by omega)).trans gV
  have v8:=rV.c1.2.2.2.2.2.2.2.2.1
  have vf8:=rV.c1.2.2.2.2.2.2.2.2.2.2 8
  have HL:=hide (⟨rL,tL.be,roL,gL⟩:_∧_∧_∧_)
  obtain ⟨-,-,-,-,-,l15,-⟩:=rL.c2
  have lf15:=rL.c1.2.2.2.2.2.2.2.2.2.2 15
  by_cases hp1:p=[46]
  ·obtain ⟨L2,hL2,rL2,tL2⟩:=rL.lasted tL.be h0 []
   have hL2':L.setCell ⟨b,15,none⟩ (.string ⟨#[]⟩)=L2:=hL2
   have HL2:=hide (⟨rL2,tL2.be,tL2.ro roL⟩:_∧_∧_)
   have Hp1:=hide hp1
   subst hp1
   clear rV beV roV gV rL tL roL gL rL2 tL2 hL2 HL
   go_wp2_with fail
   go_ret2
   obtain ⟨rL2,be2,ro2⟩:=unhide HL2
   obtain ⟨D,h,hsx,hK,hN,hwt⟩:=unhide HM
   have hon:=h.on
   rw [on_dots (unhide Hre0) (by decide)] at hon
   have hd:E.dots [46] am an=(am,an):=by rw [En.dots,if_pos (.inl rfl)]
   rw [hd] at hon
   refine ⟨0,false,rfl,.inr (.inr ⟨rfl,rfl,some ⟨pb,pp,none⟩,cap - 1,rest,slash,fol,am,an,dm,dn,[],⟨by rw [← hN];exact rL2,be2,ro2,?_,?_,hwt,h.fo,h.wf,h.no,?_,hon⟩,.inr ⟨rfl,by omega⟩⟩)⟩
   ·have:=h.le;simp only [List.length_cons] at this;omega
   ·have:=h.mx;omega
   ·have:=h.sb;simp only [List.length_cons] at this;omega
  ·by_cases hp2:p=[46,46]
   ·obtain ⟨L2,hL2,rL2,tL2⟩:=rL.lasted tL.be h0 []
    have hL2':L.setCell ⟨b,15,none⟩ (.string ⟨#[]⟩)=L2:=hL2
    have HL2:=hide (⟨rL2,tL2.be,tL2.ro roL⟩:_∧_∧_)
    obtain ⟨x,hx⟩:∃ x,(E.dots [46,46] am an).1=x:=⟨_,rfl⟩
    obtain ⟨z,hz⟩:∃ z,(E.dots [46,46] am an).2=z:=⟨_,rfl⟩
    obtain ⟨D,h,-⟩:=unhide HM
    have Hdd:=hide (rdd_any (D.below tL2.be) rL2 h.wf h.no x z hx hz)
    have Hxz:=hide (⟨hx,hz⟩:_∧_)
    subst hp2
    clear hp1
    clear rV beV roV gV rL tL roL gL rL2 tL2 hL2 HL D h hx hz
    go_wp2_with fail
    refine (unhide Hdd).mono ?_
    rintro e w3 ⟨rfl,hB3⟩
    obtain ⟨rL2,be2,ro2⟩:=unhide HL2
    have r3:=rL2.below hB3
    have be3:Below W0.heap.size W0 w3:=be2.trans (hB3.mono be2.size)
    obtain ⟨M1,M2,⟨x1,x2⟩,⟨o0,o1⟩,⟨p0,p1⟩,r4,t4⟩:=r3.moved be3 h0 x z
    have H4:=hide (⟨r4,t4.be,t4.ro (ro2.below hB3)⟩:_∧_∧_)
    clear rL2 be2 ro2 r3 be3 r4 t4 hB3 HL2 Hdd hL2' l15 lf15 hL v8 vf8
    go_wp2_with fail
    go_ret2
    obtain ⟨r4,be4,ro4⟩:=unhide H4
    obtain ⟨D,h,hsx,hK,hN,hwt⟩:=unhide HM
    obtain ⟨hx,hz⟩:=unhide Hxz
    have hon:=h.on
    rw [on_dots (unhide Hre0) (by decide),hx,hz] at hon
    obtain ⟨ok1,ok2⟩:=dots_ok D h.wf h.no [46,46]
    rw [hz] at ok1 ok2
    rw [hx] at ok2
    refine ⟨0,false,rfl,.inr (.inr ⟨rfl,rfl,some ⟨pb,pp,none⟩,cap - 1,rest,slash,fol,x,z,dm,dn,[],⟨by rw [← hN];exact r4,be4,ro4,?_,?_,hwt,h.fo,ok1,ok2,?_,hon⟩,.inr ⟨rfl,by omega⟩⟩)⟩
    ·have:=h.le;simp only [List.length_cons] at this;omega
    ·have:=h.mx;omega
    ·have:=h.sb;simp only [List.length_cons] at this;omega
   ·have hdt:¬ isDots p=true:=by simp [isDots,hp1,hp2]
    have Hdt:=hide hdt
    have hq1:(p == [46])=false:=by simpa using hp1
    have hq2:(p == [46,46])=false:=by simpa using hp2
    obtain ⟨D1,D2,⟨d1,d2⟩,⟨dc0,dc1⟩,⟨df0,df1⟩,rD,tD⟩:=rL.dired tL.be h0 am an
    obtain ⟨P1,hP1,rP,tP⟩:=rD.lasted tD.be h0 p
    obtain ⟨-,-,-,-,-,-,l6,l7,-⟩:=rL.c1
    have d15:D2.cell? ⟨b,15,none⟩=some (.string (bs last)):=rD.c2.2.2.2.2.2.1
    have df15:=rD.c1.2.2.2.2.2.2.2.2.2.2 15
    have roP:=tP.ro (tD.ro roL)
    have gP:=(tP.kp y (by omega)).trans ((tD.kp y (by omega)).trans gL)
    obtain ⟨x0,hx0⟩:∃ x0,(E.T.findN an (bs p)).getD 0=x0:=⟨_,rfl⟩
    obtain ⟨ff,hff⟩:∃ ff,(E.T.findN an (bs p)).isSome=ff:=⟨_,rfl⟩
    obtain ⟨D,h,-⟩:=unhide HM
    have HFd:=hide (find_R D h.wf (bs p) x0 ff hx0 hff P1.drew (below_drew tP.be))
    obtain ⟨q0,-,-,-,-,-,-,q7,-⟩:=rP.c1
    have HP:=hide (⟨rP,tP.be,roP,gP,hx0,hff⟩:_∧_∧_∧_∧_∧_)
    clear rV beV roV gV rL tL roL gL HL D h rD tD rP tP roP gP hx0 hff l15 lf15 hdt
    go_upto_region 19 with fail
    go_cut [8,9] from 86 to 99 (fun s8 s9 wc=>s8=I x0∧s9=.bool ff∧Below P1.heap.size P1 wc)
    case first =>
     go_region_held3 (fun w'=>w'.cell? ⟨b,0,none⟩=some (P0 r)∧w'.cell? ⟨b,7,none⟩=some (I an)) (go_keep)
      ((go_at_call 93;refine (unhide HFd).mono ?_;rintro e w3 ⟨rfl,HB3⟩;have hB3:=(below_drew (Below.refl P1.heap.size P1)).trans (unhide HB3);have s0:=cell_be q0 hB3;have s1:=cell_be q7 hB3;have HE:=hide hB3;clear hB3))
     rename_i hHeld
     clear hHeld s0 s1
     go_wp2_with fail
     go_meet
     case rel=>exact ⟨rfl,rfl,unhide HE⟩
    case rest =>
    obtain ⟨rfl,rfl,hBQ⟩:=hcut
    obtain ⟨Q,hQ⟩:∃ Q,Q=wc:=⟨_,rfl⟩
    rw [← hQ] at hBQ ⊢
    clear hQ wc q0 q7 HFd d1 d2 dc0 dc1 df0 df1 hP1 d15 df15 l6 l7 hL v8 vf8 hp1 hp2 hq1 hq2
    obtain ⟨rP,beP,roP,gP,hx0,hff⟩:=unhide HP
    have rQ:=rP.below hBQ
    have beQ:Below W0.heap.size W0 Q:=beP.trans (hBQ.mono beP.size)
    have roQ:=roP.below hBQ
    have gQ:=(hBQ.block _ (lt_of_heap gP)).trans gP
    clear HP rP beP roP gP hBQ
    cases ff with
    | false =>
     have hnone:E.find p am an=none:=by
      unfold En.find
      rw [Option.map_eq_none_iff]
      simpa using hff
     have HQ:=hide (⟨rQ,beQ,hnone⟩:_∧_∧_)
     clear rQ beQ roQ gQ hx0 hff hnone
     by_cases hN0:N=0
     ·subst hN0
      go_wp2_with fail
      go_ret2
      obtain ⟨rQ,beQ,hnone⟩:=unhide HQ
      obtain ⟨D,h,hsx,hK,hN,hwt⟩:=unhide HM
      have hr0:rest=[]:=List.eq_nil_of_length_eq_zero hN.symm
      have hon:=h.on
      rw [on_miss (unhide Hre0) (unhide Hdt) hnone,hr0] at hon
      refine ⟨0,true,rfl,.inr (.inl ⟨rfl,rfl,?_,?_,beQ,_,_,_,_,_,_,_,_,rQ,?_⟩)⟩ <;> rw [← hon] <;> rfl
     ·have hN1:(0:Int) < (N:Int):=by omega
      have hN2:0 < N:=by omega
      go_wp2_with fail
      go_ret2
      obtain ⟨rQ,beQ,hnone⟩:=unhide HQ
      obtain ⟨D,h,hsx,hK,hN,hwt⟩:=unhide HM
      have hr0:rest≠[]:=by rintro rfl;simp at hN;omega
      have hon:=h.on
      rw [on_miss (unhide Hre0) (unhide Hdt) hnone,missF,if_neg hr0,missE,if_neg hr0] at hon
      refine ⟨32,false,rfl,.inl ⟨by omega,rfl,?_,?_,?_,beQ,_,_,_,_,_,_,_,_,rQ⟩⟩ <;> rw [← hon]
    | true =>
     obtain ⟨k0,hk0⟩:=Option.isSome_iff_exists.1 hff
     obtain rfl:k0=x0:=by rw [hk0] at hx0;exact hx0
     obtain ⟨t1,ht1⟩:∃ t1,(E.down am k0).1=t1:=⟨_,rfl⟩
     obtain ⟨t2,ht2⟩:∃ t2,(E.down am k0).2=t2:=⟨_,rfl⟩
     have hfind:E.find p am an=some (t1,t2):=by
      unfold En.find
      rw [hk0,← ht1,← ht2]
      rfl
     obtain ⟨D,h,-⟩:=unhide HM
     have hwf2:(kl t2).wf=true:=by rw [← ht2];exact down_wf D.wf (found_wf D hk0)
     have hno2:Mt.any E.es (Mt.isAt t1 t2)=false:=by rw [← ht1,← ht2];exact no_down D am k0
     obtain ⟨A,hA,gA,hBA⟩:∃ A,Q.alloc (.cells #[I am,I an] 50)=A∧A.heap[Q.heap.size]?=some (.cells #[I am,I an] 50)∧Below Q.heap.size Q A:=⟨_,rfl,heap_alloc_new _ _,(Below.refl _ _).alloc (Nat.le_refl _) _⟩
     obtain ⟨-,-,-,-,-,-,j6,j7,-⟩:=rQ.c1
     have rA:=rQ.below hBA
     have beA:Below W0.heap.size W0 A:=beQ.trans (hBA.mono beQ.size)
     have roA:=roQ.below hBA
     have gyA:=(hBA.block _ (lt_of_heap gQ)).trans gQ
     obtain ⟨a0,a1⟩:=Mt.cells2 gA
     obtain ⟨-,b1,-⟩:=rA.c1
     have HDn:=hide (down_R D am k0 ht1 ht2 A.drew (below_drew beA))
     have hyQ:y < Q.heap.size:=lt_of_heap gQ
     have hQA:Q.heap.size < A.heap.size:=lt_of_heap gA
     obtain ⟨dd,hdd⟩:∃ dd,dd=Q.heap.size:=⟨_,rfl⟩
     rw [← hdd] at gA a0 a1 hyQ hQA
     have Hdd:=hide hdd
     have nbd:b≠dd:=by omega
     have ndb:dd≠b:=by omega
     have nyd:y≠dd:=by omega
     have HAA:=hide (⟨rA,beA,roA,gyA,gA⟩:_∧_∧_∧_∧_)
     have HT:=hide (⟨hfind,hwf2,hno2,ht1,ht2⟩:_∧_∧_∧_∧_)
     clear D h rQ beQ roQ gQ hx0 hff hk0 ht1 ht2 hfind hwf2 hno2 hBA rA beA roA gyA gA hdd
     go_upto_region 25 with fail
     rw [← unhide Hdd]
     clear hA j6 j7
     go_cut [] from 109 to 120 (fun wc=>Hid (Rn wc b r R E t1 t2 (.slice (some ⟨pb,pp,none⟩) N (cap - 1)) slash fol (s + 1) am an p∧Below W0.heap.size W0 wc∧Ro wc b (some ⟨pb,pp,none⟩) rest∧wc.heap[y]?=some (.cells #[I av,I K,I mo,I uu,I gg,I ll,I zz] 33)∧wc.heap[dd]?=some (.cells #[I am,I an] 50)))
     case first =>
      go_region_held3 (fun w'=>w'.cell? ⟨b,1,none⟩=some (P0 (R + 1))∧w'.cell? ⟨dd,0,none⟩=some (I am)) (go_keep)
       ((go_at_call 103;refine (unhide HDn).mono ?_;rintro e w4 ⟨rfl,HB4⟩;have hB4:=(below_drew (Below.refl A.heap.size A)).trans (unhide HB4);have o0:=cell_be b1 hB4;have o1:=cell_be a0 hB4;obtain ⟨rA,beA,roA,gyA,gA⟩:=unhide HAA;have r4:=rA.below hB4;have be4:Below W0.heap.size W0 w4:=beA.trans (hB4.mono beA.size);obtain ⟨M1,M2,⟨x1,x2⟩,⟨z0,z1⟩,⟨f0,f1⟩,r5,t5⟩:=r4.moved be4 h0 t1 t2;have s0:M2.cell? ⟨b,1,none⟩=some (P0 (R + 1)):=r5.c1.2.1;have s1:M2.cell? ⟨dd,0,none⟩=some (I am):=t5.cell ndb o1;have HE:=hide (⟨r5,t5.be,t5.ro (roA.below hB4),(t5.kp y (by omega)).trans ((hB4.block _ (lt_of_heap gyA)).trans gyA),(t5.kp dd ndb).trans ((hB4.block _ (lt_of_heap gA)).trans gA)⟩:_∧_∧_∧_∧_);clear hB4 rA beA roA gyA gA r4 be4 r5 t5))
      rename_i hHeld
      clear hHeld s0 s1 o0 o1
      go_wp2_with fail
      go_meet
      case rel=>first | exact HE | exact hide ⟨(unhide HE).1,below_drew (unhide HE).2.1,(unhide HE).2.2.1,(unhide HE).2.2.2.1,(unhide HE).2.2.2.2⟩
     case rest =>
     obtain ⟨B,hB⟩:∃ B,B=wc:=⟨_,rfl⟩
     rw [← hB] at hcut ⊢
     clear hB wc a0 a1 b1 HDn HAA
     obtain ⟨rB,beB,roB,gyB,gdB⟩:=unhide hcut
     obtain ⟨av2,mo2,uu2,gg2,ll2,zz2,hst2,-⟩:=stat_shape E.T t2
     obtain ⟨f2,hf2⟩:∃ f,(E.T.nd t2).isSome=f:=⟨_,rfl⟩
     obtain ⟨K2,hK2⟩:∃ K,K=E.T.kindOf t2:=⟨_,rfl⟩
     rw [← hK2] at hst2
     obtain ⟨D,h,-⟩:=unhide HM
     have HS2:=hide (rstat_behind D (unhide HT).2.1 hst2 hf2 B beB)
     obtain ⟨b0,-,-,-,-,-,-,b7,-⟩:=rB.c1
     have HBB:=hide (⟨rB,beB,roB,gyB,gdB⟩:_∧_∧_∧_∧_)
     have HK2:=hide hK2
     have nyb:y≠b:=by omega
     have hWy:W0.heap.size≤y:=by omega
     have hpy:pb≠y:=by omega
     clear D h hst2 hf2 hK2 rB beB roB gyB gdB hcut
     go_upto_region 26 with fail
     go_cut [] from 121 to 133 (fun wc=>Hid (Rn wc b r R E t1 t2 (.slice (some ⟨pb,pp,none⟩) N (cap - 1)) slash fol (s + 1) am an p∧Below W0.heap.size W0 wc∧Ro wc b (some ⟨pb,pp,none⟩) rest∧wc.heap[y]?=some (.cells #[I av2,I K2,I mo2,I uu2,I gg2,I ll2,I zz2] 33)∧wc.heap[dd]?=some (.cells #[I am,I an] 50)))
     case first =>
      go_region_held3 (fun w'=>w'.cell? ⟨b,0,none⟩=some (P0 r)∧w'.cell? ⟨b,7,none⟩=some (I t2)) (go_keep)
       ((go_at_call 88;refine (unhide HS2).mono ?_;rintro e w5 ⟨rfl,HB5⟩;have q0:=cell_be b0 (unhide HB5);have q1:=cell_be b7 (unhide HB5);have gy5:=((unhide HB5).block _ (lt_of_heap (unhide HBB).2.2.2.1)).trans (unhide HBB).2.2.2.1;obtain ⟨r0,r1,r2,r3,r4,r5,r6,rf⟩:=cells7 gy5;have HG5:=hide gy5;clear gy5))
      rename_i hHeld
      clear hHeld q0 q1
      obtain ⟨rB,beB,roB,gyB,gdB⟩:=unhide HBB
      have be5:Below W0.heap.size W0 w5:=beB.trans ((unhide HB5).mono beB.size)
      obtain ⟨Y5,hY5,gY5,tY5⟩:=set7z (unhide HG5) be5 hWy (I av2) (I K2) (I mo2) (I uu2) (I gg2) (I ll2) (I zz2)
      rw [hY5]
      have HE:=hide (⟨(tY5.kp b nby).trans (rB.below (unhide HB5)),tY5.be,(roB.below (unhide HB5)).tz hpy tY5,gY5,(tY5.kp dd (Ne.symm nyd)).trans (((unhide HB5).block _ (lt_of_heap gdB)).trans gdB)⟩:_∧_∧_∧_∧_)
      clear hY5 gY5 tY5 be5 rB beB roB gyB gdB HG5 r0 r1 r2 r3 r4 r5 r6 rf b0 b7
      go_wp2_with fail
      go_meet
      case rel=>first | exact HE | exact hide ⟨(unhide HE).1,below_drew (unhide HE).2.1,(unhide HE).2.2.1,(unhide HE).2.2.2.1,(unhide HE).2.2.2.2⟩
     case rest =>
     obtain ⟨C,hC⟩:∃ C,C=wc:=⟨_,rfl⟩
     rw [← hC] at hcut ⊢
     clear hC wc b0 b7 HS2 HBB
     obtain ⟨rC,beC,roC,gyC,gdC⟩:=unhide hcut
     obtain ⟨-,y1,-⟩:=cells7 gyC
     obtain ⟨-,-,-,-,-,-,-,-,-,b9,-⟩:=rC.c1
     obtain ⟨b10,-⟩:=rC.c2
     obtain ⟨a0,a1⟩:=Mt.cells2 gdC
     obtain ⟨fw,hfw⟩:∃ fw,E.follow=fw:=⟨_,rfl⟩
     rw [hfw] at b10
     obtain ⟨G,hG⟩:∃ G,E.goes t2 rest slash=G:=⟨_,rfl⟩
     have HCC:=hide (⟨rC,beC,roC,hG⟩:_∧_∧_∧_)
     have HG:Hid (G=(decide (K2=3) && (!(decide (N=0)) || fw || slash))):=hide (by
      rw [← hG,En.goes,← unhide HK2,hfw]
      have:rest.isEmpty=decide (N=0):=by
       rw [(unhide HM).2.2.2.2.1]
       cases rest <;> simp
      rw [this])
     clear rC beC roC gyC gdC hcut hfw hG
     go_upto_region 27 with fail
     go_cut [155] from 134 to 154 (fun s155 wc=>s155=.bool (!G)∧wc=C)
     case first =>
      have hG:=unhide HG
      clear HG HK2
      by_cases hk3:K2=3
      ·subst hk3
       by_cases hr:N=0
       ·subst hr
        cases fw with
        | true =>
         obtain rfl:G=true:=by rw [hG];simp
         clear hG
         go_wp2_with fail
         go_meet
         case rel=>exact ⟨rfl,rfl⟩
        | false =>
         obtain rfl:G=slash:=by rw [hG];simp
         clear hG
         go_wp2_with fail
         go_meet
         case rel=>exact ⟨rfl,rfl⟩
       ·obtain rfl:G=true:=by rw [hG];simp [hr]
        have hN1:¬ (N:Int)=0:=by omega
        have hN2:((N:Int) == 0)=false:=by simpa using hr
        clear hG
        go_wp2_with fail
        go_meet
        case rel=>exact ⟨rfl,rfl⟩
      ·obtain rfl:G=false:=by rw [hG];simp [hk3]
       have hk4:(K2 == 3)=false:=by simpa using hk3
       clear hG
       go_wp2_with fail
       go_meet
       case rel=>exact ⟨rfl,rfl⟩
     case rest =>
     obtain ⟨rfl,e9⟩:=hcut
     rw [e9]
     clear e9 wc y1 b9 b10 HG HK2
     cases G with
     | false =>
      clear a0 a1
      go_wp2_with fail
      go_ret2
      obtain ⟨rC,beC,roC,hG⟩:=unhide HCC
      obtain ⟨hfind,hwf2,hno2,-,-⟩:=unhide HT
      obtain ⟨D,h,hsx,hK,hN,hwt⟩:=unhide HM
      have hon:=h.on
      rw [on_plain (unhide Hre0) (unhide Hdt) hfind (by rw [hG];simp)] at hon
      refine ⟨0,false,rfl,.inr (.inr ⟨rfl,rfl,some ⟨pb,pp,none⟩,cap - 1,rest,slash,fol,t1,t2,am,an,p,⟨by rw [← hN];exact rC,beC,roC,?_,?_,hwt,h.fo,hwf2,hno2,?_,hon⟩,.inr ⟨rfl,by omega⟩⟩)⟩
      ·have:=h.le;simp only [List.length_cons] at this;omega
      ·have:=h.mx;omega
      ·have:=h.sb;simp only [List.length_cons] at this;omega
     | true =>
      obtain ⟨rC,beC,roC,hG⟩:=unhide HCC
      obtain ⟨hfind,hwf2,hno2,-,-⟩:=unhide HT
      obtain ⟨D,h,hsx,hK,hN,hwt⟩:=unhide HM
      have htl:=text_le D t2
      obtain ⟨x,hx⟩:∃ x,onE fol (E.text t2) slash rest=x:=⟨_,rfl⟩
      have hsb2:s + 1≤(fol + 1) * 5000:=by have:=h.sb;simp only [List.length_cons] at this;omega
      have hfo:=h.fo
      by_cases hx0:x=0
      ·have hon:=h.on
       have hx':=hx
       rw [hx0] at hx
       rw [on_next hfo (unhide Hre0) (unhide Hdt) hfind hG hx am an] at hon
       have hf40:=onE_fol hx
       have hpw:=onP_wt hx
       obtain ⟨txt,htxt⟩:∃ txt,E.text t2=txt:=⟨_,rfl⟩
       rw [htxt] at hon hx hpw
       have hx2:=hx
       rw [onE,if_neg hf40] at hx2
       cases txt with
       | nil=>rw [if_pos rfl] at hx2;omega
       | cons c l =>
        rw [if_neg (by simp)] at hx2
        by_cases hlong:4096 < (c :: l).length + (Nm.pw false slash rest).length
        ·rw [if_pos hlong] at hx2;omega
        rw [if_neg hlong] at hx2
        obtain ⟨bm,hbm⟩:∃ bm,(E.beg (onP (c :: l) slash rest) am an).1=bm:=⟨_,rfl⟩
        obtain ⟨bn,hbn⟩:∃ bn,(E.beg (onP (c :: l) slash rest) am an).2=bn:=⟨_,rfl⟩
        have HLk:=hide (rlink_yes D h0 beC rC hwf2 (by omega) am an pb pp N (cap - 1) rest hN.symm roC (by omega) c l htxt (by omega) hx2 bm bn hbm hbn)
        rw [hbm,hbn] at hon
        have hwb:(kl bn).wf=true∧Mt.any E.es (Mt.isAt bm bn)=false:=by
         have e:∀ z,E.beg (onP (c :: l) slash rest) am an=z→(kl z.2).wf=true∧Mt.any E.es (Mt.isAt z.1 z.2)=false:=by
          rintro z rfl
          unfold En.beg
          split
          ·exact ⟨hrw,hr0⟩
          ·exact ⟨h.wf,h.no⟩
         have:=e _ rfl
         rw [hbm,hbn] at this
         exact this
        have HE:=hide (⟨hon,hpw,hwb,hsb2,hf40,hfo⟩:_∧_∧_∧_∧_∧_)
        clear rC beC roC hG hfind hwf2 hno2 D h hsx hK hN hwt htl hx hx' hx0 hon hpw hf40 hx2 hlong htxt hbm hbn hwb hsb2 hfo
        go_wp2_with fail
        refine (unhide HLk).mono ?_
        rintro e w6 ⟨rfl,a6,k6,c6,r6,hk6,ro6,be6,hc6,hm6⟩
        have HE6:=hide (⟨r6,hk6,ro6,be6,hc6,hm6⟩:_∧_∧_∧_∧_∧_)
        clear r6 hk6 ro6 be6 hc6 hm6 HLk
        go_wp2_with fail
        go_ret2
        obtain ⟨r6,hk6,ro6,be6,hc6,hm6⟩:=unhide HE6
        obtain ⟨hon,hpw,hwb,hsb2,hf40,hfo⟩:=unhide HE
        have hwl:=wt_len (onP (c :: l) slash rest).parts
        subst hk6
        exact ⟨0,false,rfl,.inr (.inr ⟨rfl,rfl,a6,c6,(onP (c :: l) slash rest).parts,(onP (c :: l) slash rest).slash,fol + 1,bm,bn,am,an,[],⟨r6,be6,ro6,hc6,hm6,hpw,by omega,hwb.1,hwb.2,by omega,hon⟩,.inl (by omega)⟩)⟩
      ·have hon:=h.on
       rw [on_bad (unhide Hre0) (unhide Hdt) hfind hG (by rw [hx];exact hx0),hx] at hon
       have HLk:Hid (Calls Tryz.prog 162 #[P0 b,.agg #[I am,I an],.slice (some ⟨pb,pp,none⟩) N (cap - 1)] C fun e w'=>e=.returned (I x)∧(∃ fol',Rn w' b r R E t1 t2 (.slice (some ⟨pb,pp,none⟩) N (cap - 1)) slash fol' (s + 1) am an p)∧Below W0.heap.size W0 w'):=by
        rcases Nat.lt_or_ge fol 40 with h40 | h40
        ·exact rlink_no D h0 beC rC hwf2 h40 am an (some ⟨pb,pp,none⟩) N (cap - 1) rest hN.symm roC (by omega) (E.text t2) rfl htl x hx hx0
        ·obtain rfl:fol=40:=by omega
         have e46:x=46:=by rw [← hx,onE,if_pos rfl]
         subst e46
         refine (rlink_40 rC am an (some ⟨pb,pp,none⟩) N (cap - 1)).mono ?_
         rintro e w' ⟨rfl,hB⟩
         exact ⟨rfl,⟨40,rC.below hB⟩,beC.trans (hB.mono beC.size)⟩
       have HE:=hide (⟨hon,hx0⟩:_∧_)
       clear rC beC roC hG hfind hwf2 hno2 D h hsx hK hN hwt htl hx hx0 hon hsb2 hfo
       go_wp2_with fail
       refine (unhide HLk).mono ?_
       rintro e w6 ⟨rfl,hr6,hb6⟩
       have HE6:=hide (⟨hr6,hb6⟩:_∧_)
       clear hr6 hb6 HLk
       go_wp2_with fail
       go_ret2
       obtain ⟨⟨fol',r6⟩,be6⟩:=unhide HE6
       obtain ⟨hon,hx0⟩:=unhide HE
       refine ⟨x,false,rfl,.inl ⟨hx0,rfl,?_,?_,?_,be6,_,_,_,_,_,_,_,_,r6⟩⟩ <;> rw [← hon]
end
attribute [local go_sem ↓] Go.wp_at_zero Go.wp_at_succ
def zrf:Obj:=.cells #[I 0,I 0,.string ⟨#[]⟩,I 0,I 0,.bool false,.bool false] 63
section
variable {lo R:Nat} {W:World} {r b:Nat} {E:En} {rs:List Mt.Rm}
theorem rwalk_no (D:Rd lo R W r E rs) (fm fn:Int) (hr:(kl E.rn).wf=true) (hf:(kl fn).wf=true) (path:Bytes) (hp:(E.place E.rm E.rn && E.place fm fn)=false) :
  Calls Tryz.prog 29 #[P0 r,P0 (R + 1),.agg #[I E.rm,I E.rn],.agg #[I fm,I fn],.agg #[I E.cu,I E.cg],.string (bs path),.bool E.follow] W fun e w'=>e=.returned (.tuple #[Fd.none.v,I 1,I 0])∧Below W.heap.size W w':=by
 obtain ⟨V,hV,g1,g2,g3,g4,hB,hs⟩:=four_new W (.cells #[I E.rm,I E.rn] 50) (.cells #[I fm,I fn] 50) (.cells #[I E.cu,I E.cg] 57) zrf
 unfold zrf at hV g4
 obtain ⟨a0,a1⟩:=Mt.cells2 g1
 obtain ⟨b0,b1⟩:=Mt.cells2 g2
 obtain ⟨r1,hr1⟩:∃ r1,E.place E.rm E.rn=r1:=⟨_,rfl⟩
 obtain ⟨r2,hr2⟩:∃ r2,E.place fm fn=r2:=⟨_,rfl⟩
 rw [hr1,hr2] at hp
 have H1:=hide (rplace_any (D.below hB) E.rm E.rn hr r1 hr1)
 have H2:=hide (fun (V':World) (g':Below V.heap.size V V')=>rplace_any ((D.below hB).below g') fm fn hf r2 hr2)
 have HG:=hide (⟨g4,hB,hs⟩:_∧_∧_)
 clear D g1 g2 g3 g4 hB hs hr1 hr2 hr hf
 show Calls _ _ _ _ fun e w'=>e=.returned (.tuple #[.agg #[I 0,I 0,.string (bs []),I 0,I 0,.bool false,.bool false],I 1,I 0])∧_
 cases r1 with
 | false =>
  go_enter Tryz.func29,Tryz.ntmps29
  go_wp2_with fail
  refine (unhide H1).mono ?_
  rintro e w3 ⟨rfl,hB3⟩
  obtain ⟨g4,hB,hs⟩:=unhide HG
  have g5:=(hB3.block _ (by omega)).trans g4
  obtain ⟨r0,r1,r2,r3,r4,r5,r6,rf⟩:=cells7 g5
  obtain ⟨Y,hY,hYb,hYB⟩:=set7 g5 (I 0) (I 0) (.string ⟨#[]⟩) (I 0) (I 0) (.bool false) (.bool false)
  obtain ⟨z0,z1,z2,z3,z4,z5,z6,-⟩:=cells7 hYb
  have HY:=hide hY
  have HYB:=hide (fin4 hs hB hB3 hYB)
  clear g4 hB hs g5 hY hYb hYB hB3 H1 H2 HG a0 a1 b0 b1
  go_wp2_with fail
  rw [unhide HY]
  refine bodyPost_ret (v:=.tuple #[.agg #[I 0,I 0,.string (bs []),I 0,I 0,.bool false,.bool false],I 1,I 0]) (by simp [results,Tryz.results29,go_sem,z0,z1,z2,z3,z4,z5,z6]) rfl ?_
  exact ⟨rfl,unhide HYB⟩
 | true =>
  obtain rfl:r2=false:=by simpa using hp
  go_enter Tryz.func29,Tryz.ntmps29
  go_wp2_with fail
  refine (unhide H1).mono ?_
  rintro e w2 ⟨rfl,hB2⟩
  have q0:=cell_be b0 hB2
  have q1:=cell_be b1 hB2
  have H3:=hide (unhide H2 w2 hB2)
  have HB2:=hide hB2
  clear H1 H2 hB2 a0 a1 b0 b1
  go_wp2_with fail
  refine (unhide H3).mono ?_
  rintro e w3 ⟨rfl,hB3'⟩
  obtain ⟨g4,hB,hs⟩:=unhide HG
  have hB3:=(unhide HB2).trans (hB3'.mono (unhide HB2).size)
  have g5:=(hB3.block _ (by omega)).trans g4
  obtain ⟨r0,r1,r2,r3,r4,r5,r6,rf⟩:=cells7 g5
  obtain ⟨Y,hY,hYb,hYB⟩:=set7 g5 (I 0) (I 0) (.string ⟨#[]⟩) (I 0) (I 0) (.bool false) (.bool false)
  obtain ⟨z0,z1,z2,z3,z4,z5,z6,-⟩:=cells7 hYb
  have HY:=hide hY
  have HYB:=hide (fin4 hs hB hB3 hYB)
  clear g4 hB hs g5 hY hYb hYB hB3 hB3' H3 HB2 HG q0 q1
  go_wp2_with fail
  rw [unhide HY]
  refine bodyPost_ret (v:=.tuple #[.agg #[I 0,I 0,.string (bs []),I 0,I 0,.bool false,.bool false],I 1,I 0]) (by simp [results,Tryz.results29,go_sem,z0,z1,z2,z3,z4,z5,z6]) rfl ?_
  exact ⟨rfl,unhide HYB⟩
theorem rwalk_bad (D:Rd lo R W r E rs) (fm fn:Int) (hr:(kl E.rn).wf=true) (hf:(kl fn).wf=true) (path:Bytes) (hp:(E.place E.rm E.rn && E.place fm fn)=true) (x:Int) (hx:Nm.err path=x) (hx0:¬ x=0) :
  Calls Tryz.prog 29 #[P0 r,P0 (R + 1),.agg #[I E.rm,I E.rn],.agg #[I fm,I fn],.agg #[I E.cu,I E.cg],.string (bs path),.bool E.follow] W fun e w'=>e=.returned (.tuple #[Fd.none.v,I x,I 0])∧Below W.heap.size W w':=by
 obtain ⟨V,hV,g1,g2,g3,g4,hB,hs⟩:=four_new W (.cells #[I E.rm,I E.rn] 50) (.cells #[I fm,I fn] 50) (.cells #[I E.cu,I E.cg] 57) zrf
 unfold zrf at hV g4
 obtain ⟨a0,a1⟩:=Mt.cells2 g1
 obtain ⟨b0,b1⟩:=Mt.cells2 g2
 simp only [Bool.and_eq_true] at hp
 have H1:=hide (rplace_any (D.below hB) E.rm E.rn hr true hp.1)
 have H2:=hide (fun (V':World) (g':Below V.heap.size V V')=>rplace_any ((D.below hB).below g') fm fn hf true hp.2)
 have HRd:=hide (rread_own path)
 rw [hx] at HRd
 generalize Nm.rt path=ro at *
 generalize Nm.sl path=st at *
 generalize Nm.ps path=ps at *
 have HG:=hide (⟨g4,hB,hs⟩:_∧_∧_)
 have hx1:(x != 0)=true:=by simpa using hx0
 clear D g1 g2 g3 g4 hB hs hr hf hp hx
 show Calls _ _ _ _ fun e w'=>e=.returned (.tuple #[.agg #[I 0,I 0,.string (bs []),I 0,I 0,.bool false,.bool false],I x,I 0])∧_
 go_enter Tryz.func29,Tryz.ntmps29
 go_wp2_with fail
 refine (unhide H1).mono ?_
 rintro e w2 ⟨rfl,hB2⟩
 have q0:=cell_be b0 hB2
 have q1:=cell_be b1 hB2
 have H3:=hide (unhide H2 w2 hB2)
 have HB2:=hide hB2
 clear H1 H2 hB2 a0 a1 b0 b1
 go_wp2_with fail
 refine (unhide H3).mono ?_
 rintro e w3 ⟨rfl,hB3'⟩
 have HB3:=hide ((unhide HB2).trans (hB3'.mono (unhide HB2).size))
 clear hB3' HB2 H3 q0 q1
 go_wp2_with fail
 refine (unhide HRd w3).mono ?_
 rintro e w4 ⟨v,rfl,own,hB4⟩
 obtain ⟨a,vc,rfl⟩:=Nm.own_form own
 obtain ⟨Z,hZ,hBZ⟩:∃ Z,w4.alloc (.cells #[.bool ro,.bool st,.slice a ps.length vc] 171)=Z∧Below w4.heap.size w4 Z:=⟨_,rfl,(Below.refl _ _).alloc (Nat.le_refl _) _⟩
 obtain ⟨g4,hB,hs⟩:=unhide HG
 have hB5:Below V.heap.size V Z:=(unhide HB3).trans ((hB4.mono (unhide HB3).size).trans (hBZ.mono (Nat.le_trans (unhide HB3).size hB4.size)))
 have g5:=(hB5.block _ (by omega)).trans g4
 obtain ⟨r0,r1,r2,r3,r4,r5,r6,rf⟩:=cells7 g5
 obtain ⟨Y,hY,hYb,hYB⟩:=set7 g5 (I 0) (I 0) (.string ⟨#[]⟩) (I 0) (I 0) (.bool false) (.bool false)
 obtain ⟨z0,z1,z2,z3,z4,z5,z6,-⟩:=cells7 hYb
 have HY:=hide hY
 have HYB:=hide (fin4 hs hB hB5 hYB)
 clear g4 hB hs g5 hY hYb hYB hB4 hBZ hB5 HB3 HG HRd own
 go_wp2_with fail
 rw [unhide HY]
 refine bodyPost_ret (v:=.tuple #[.agg #[I 0,I 0,.string (bs []),I 0,I 0,.bool false,.bool false],I x,I 0]) (by simp [results,Tryz.results29,go_sem,z0,z1,z2,z3,z4,z5,z6]) rfl ?_
 exact ⟨rfl,unhide HYB⟩
end
attribute [local go_sem ↓] Go.wp_at_zero Go.wp_at_succ
def rwD (E:En) (r R:Nat) (am an:Int) (lf:Value) (slash:Bool) (fol s:Nat) (dm dn:Int) (last:Bytes) (xm xn:Int) (has fs:Bool):Array Value:=#[P0 r,P0 (R + 1),I E.rm,I E.rn,I E.cu,I E.cg,I am,I an,lf,.bool slash,.bool E.follow,I (fol:Int),I (s:Int),I dm,I dn,.string (bs last),I xm,I xn,.bool has,.bool fs]
def Rz (W:World) (b r R:Nat) (E:En) (am an:Int) (lf:Value) (slash:Bool) (fol s:Nat) (dm dn:Int) (last:Bytes) (xm xn:Int) (has fs:Bool):Prop:=W.heap[b]?=some (.cells (rwD E r R am an lf slash fol s dm dn last xm xn has fs) 176)
section
variable {lo R:Nat} {W W0:World} {r b:Nat} {E:En} {rs:List Mt.Rm} {am an:Int} {lf:Value} {slash:Bool} {fol s:Nat} {dm dn:Int} {last:Bytes} {xm xn:Int} {has fs:Bool}
theorem Rn.z (h:Rn W b r R E am an lf slash fol s dm dn last):Rz W b r R E am an lf slash fol s dm dn last 0 0 false false:=h
theorem Rz.c1 (h:Rz W b r R E am an lf slash fol s dm dn last xm xn has fs):W.cell? ⟨b,6,none⟩=some (I am)∧W.cell? ⟨b,7,none⟩=some (I an)∧W.cell? ⟨b,9,none⟩=some (.bool slash)∧W.cell? ⟨b,12,none⟩=some (I (s:Int))∧∀ i,W.frozen? ⟨b,i,none⟩=false:=by
 refine ⟨?_,?_,?_,?_,frozen_of h⟩ <;> (rw [cell_of h];rfl)
theorem Rz.c2 (h:Rz W b r R E am an lf slash fol s dm dn last xm xn has fs):W.cell? ⟨b,13,none⟩=some (I dm)∧W.cell? ⟨b,14,none⟩=some (I dn)∧W.cell? ⟨b,15,none⟩=some (.string (bs last))∧W.cell? ⟨b,16,none⟩=some (I xm)∧W.cell? ⟨b,17,none⟩=some (I xn)∧W.cell? ⟨b,18,none⟩=some (.bool has)∧W.cell? ⟨b,19,none⟩=some (.bool fs):=by
 refine ⟨?_,?_,?_,?_,?_,?_,?_⟩ <;> (rw [cell_of h];rfl)
theorem Rz.turn (h:Rz W b r R E am an lf slash fol s dm dn last xm xn has fs) (g:Below W0.heap.size W0 W) (h0:W0.heap.size≤b) (i:Nat) (v:Value) {dm' dn' xm' xn':Int} {has' fs':Bool} (e:(rwD E r R am an lf slash fol s dm dn last xm xn has fs).setIfInBounds i v=rwD E r R am an lf slash fol s dm' dn' last xm' xn' has' fs') :
  ∃ X,W.setCell ⟨b,i,none⟩ v=X∧Rz X b r R E am an lf slash fol s dm' dn' last xm' xn' has' fs'∧Tz b W0 W X:=by
 refine ⟨_,rfl,?_,fun k hk=>Below.heap_setCell _ _ _ _ hk,by simp,g.setCell (p:=⟨b,i,none⟩) h0 _⟩
 unfold Rz
 rw [heap_set h,e]
theorem Rz.over (h:Rz W b r R E am an lf slash fol s dm dn last xm xn has fs) (g:Below W0.heap.size W0 W) (h0:W0.heap.size≤b) (v:Bool):∃ X,W.setCell ⟨b,19,none⟩ (.bool v)=X∧Rz X b r R E am an lf slash fol s dm dn last xm xn has v∧Tz b W0 W X :=
 h.turn g h0 19 _ (by unfold rwD;simp)
theorem Rz.ends (h:Rz W b r R E am an lf slash fol s dm dn last xm xn has fs) (g:Below W0.heap.size W0 W) (h0:W0.heap.size≤b) :
  ∃ X1 X2 X3 X4,(W.setCell ⟨b,16,none⟩ (I am)=X1∧X1.setCell ⟨b,17,none⟩ (I an)=X2∧X2.setCell ⟨b,18,none⟩ (.bool true)=X3∧X3.setCell ⟨b,19,none⟩ (.bool slash)=X4)∧(W.cell? ⟨b,16,none⟩=some (I xm)∧X1.cell? ⟨b,17,none⟩=some (I xn)∧X2.cell? ⟨b,18,none⟩=some (.bool has)∧X3.cell? ⟨b,19,none⟩=some (.bool fs)∧X3.cell? ⟨b,9,none⟩=some (.bool slash))∧(W.frozen? ⟨b,16,none⟩=false∧X1.frozen? ⟨b,17,none⟩=false∧X2.frozen? ⟨b,18,none⟩=false∧X3.frozen? ⟨b,19,none⟩=false)∧Rz X4 b r R E am an lf slash fol s dm dn last am an true slash∧Tz b W0 W X4:=by
 obtain ⟨X1,h1,r1,t1⟩:=h.turn g h0 (dm':=dm) (dn':=dn) (xm':=am) (xn':=xn) (has':=has) (fs':=fs) 16 (I am) (by unfold rwD;simp)
 obtain ⟨X2,h2,r2,t2⟩:=r1.turn t1.be h0 (dm':=dm) (dn':=dn) (xm':=am) (xn':=an) (has':=has) (fs':=fs) 17 (I an) (by unfold rwD;simp)
 obtain ⟨X3,h3,r3,t3⟩:=r2.turn t2.be h0 (dm':=dm) (dn':=dn) (xm':=am) (xn':=an) (has':=true) (fs':=fs) 18 (.bool true) (by unfold rwD;simp)
 obtain ⟨X4,h4,r4,t4⟩:=r3.turn t3.be h0 (dm':=dm) (dn':=dn) (xm':=am) (xn':=an) (has':=true) (fs':=slash) 19 (.bool slash) (by unfold rwD;simp)
 exact ⟨X1,X2,X3,X4,⟨h1,h2,h3,h4⟩,⟨h.c2.2.2.2.1,r1.c2.2.2.2.2.1,r2.c2.2.2.2.2.2.1,r3.c2.2.2.2.2.2.2,r3.c1.2.2.1⟩,⟨h.c1.2.2.2.2 16,r1.c1.2.2.2.2 17,r2.c1.2.2.2.2 18,r3.c1.2.2.2.2 19⟩,r4,((t1.trans t2).trans t3).trans t4⟩
theorem Rz.dired (h:Rz W b r R E am an lf slash fol s dm dn last xm xn has fs) (g:Below W0.heap.size W0 W) (h0:W0.heap.size≤b) (x y:Int) :
  ∃ X1 X2,(W.setCell ⟨b,13,none⟩ (I x)=X1∧X1.setCell ⟨b,14,none⟩ (I y)=X2)∧(W.cell? ⟨b,13,none⟩=some (I dm)∧X1.cell? ⟨b,14,none⟩=some (I dn))∧(W.frozen? ⟨b,13,none⟩=false∧X1.frozen? ⟨b,14,none⟩=false)∧Rz X2 b r R E am an lf slash fol s x y last xm xn has fs∧Tz b W0 W X2:=by
 obtain ⟨X1,h1,r1,t1⟩:=h.turn g h0 (dm':=x) (dn':=dn) (xm':=xm) (xn':=xn) (has':=has) (fs':=fs) 13 (I x) (by unfold rwD;simp)
 obtain ⟨X2,h2,r2,t2⟩:=r1.turn t1.be h0 (dm':=x) (dn':=y) (xm':=xm) (xn':=xn) (has':=has) (fs':=fs) 14 (I y) (by unfold rwD;simp)
 exact ⟨X1,X2,⟨h1,h2⟩,⟨h.c2.1,r1.c2.2.1⟩,⟨h.c1.2.2.2.2 13,r1.c1.2.2.2.2 14⟩,r2,t1.trans t2⟩
def mAt (W:World) (b:Nat):Nat:=(40 - (match W.cell? ⟨b,11,none⟩ with | some (.int _ n)=>n.toNat | _ =>0)) * 6000 + (match W.cell? ⟨b,8,none⟩ with | some (.slice _ n _)=>n | _ =>0)
theorem Rn.mAt {a:Option Addr} {n cap:Nat} (h:Rn W b r R E am an (.slice a n cap) slash fol s dm dn last):mAt W b=(40 - fol) * 6000 + n:=by
 unfold Wl.mAt
 rw [h.c2.2.1,h.c1.2.2.2.2.2.2.2.2.1]
 rfl
end
end Go.Proofs.YtlngeaacjbdmhaaGreat.Wl
