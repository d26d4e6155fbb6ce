/-
 The contract of along.
-/
import Derived.Test.YtlngeaacjbdmhaaGreatPp17
import Derived.Deep.CutBlock
set_option maxRecDepth 100000
set_option maxHeartbeats 2000000
namespace Go.Proofs.YtlngeaacjbdmhaaGreat.Wl
open Go.RowKit
attribute [local go_sem ↓] Go.wp_at_zero Go.wp_at_succ
section
variable {lo N mb:Nat} {W:World} {t m b:Nat} {E:En} {am an:Int} {s:Nat} {p:Pa} {a:Option Addr} {cap:Nat}
theorem along_any (D:Wd lo N mb W t m E) (hw:Wn W b t m E am an s) (hn:(kl an).wf=true) (hrn:(kl E.rn).wf=true) (hrow:Rw W a p.parts) (hle:p.parts.length≤cap) (hmx:cap≤maxLen) (hwt:Nm.wt p.parts≤5000) (hs:s≤1000) (R:Re) (hR:E.run 40 p am an s=R) :
  Calls Tryz.prog 158 #[P0 b,.agg #[.bool p.root,.bool p.slash,.slice a p.parts.length cap],.bool E.follow] W fun e w'=>e=.returned (.tuple #[R.f.v,I R.why])∧Wn w' b t m E R.am R.an R.steps∧Fr [b] W w':=by
 obtain ⟨V,hV,g1,g2,hB,hsz⟩:=two_new W (.cells #[.bool p.root,.bool p.slash,.slice a p.parts.length cap] 234) zfd
 have hA0:AL E W V b t m am an s p a cap:=⟨hw.below hB,g1,g2,hrow.keep fun k _ e=>hB.block k (lt_of_heap e),hle,hmx,Fr.of_below hB,hw.lt,hn,hwt⟩
 unfold zfd at hV
 have HA:=hide hA0
 have HD:=hide D
 have Hw0:=hide hw
 have HR:=hide hR
 have hbl:=hw.lt
 have n1:b≠W.heap.size:=by omega
 have n2:b≠W.heap.size + 1:=by omega
 have n3:W.heap.size≠b:=by omega
 have n4:W.heap.size + 1≠b:=by omega
 have n5:W.heap.size≠W.heap.size + 1:=by omega
 have n6:W.heap.size + 1≠W.heap.size:=by omega
 have Hrn:=hide hrn
 obtain ⟨fw,hfw⟩:∃ fw,E.follow=fw:=⟨_,rfl⟩
 rw [hfw]
 have Hfw:=hide hfw
 clear hA0 g1 g2 hB hsz D hw hn hrow hle hmx hwt hR hrn hfw
 go_enter Tryz.func158,Tryz.ntmps158
 go_wp2_with fail
 go_step3
 go_wp2_with fail
 go_step3
 go_wp2_with fail
 go_loopw [8] (fun s8 wr=>∃ (fol:Nat) (p:Pa) (am an:Int) (s:Nat) (a:Option Addr) (cap:Nat),fol≤40∧s8=I (fol:Int)∧Hid (AL E W wr b t m am an s p a cap∧E.run (40 - fol) p am an s=R∧s≤1000 + fol * 5000)) (fun s8 _=>41 - (intOf s8).toNat)
 case atStart=>exact ⟨0,p,am,an,s,a,cap,by omega,rfl,HA,unhide HR,by omega⟩
 case round =>
  clear HA HR hs hV
  obtain ⟨fol,p,am,an,s,a,cap,hfol,rfl,HA⟩:=hrel
  obtain ⟨hA,hrun,hs⟩:=unhide HA
  obtain ⟨c0,c1,c2,-⟩:=cells3 hA.pa
  obtain ⟨-,-,-,-,w4,w5,w6,w7,-,wf⟩:=hA.wn.cells
  have wf6:=wf 6
  obtain ⟨X1,X2,⟨x1,x2⟩,⟨y1,f1⟩,hW2,hF2,hS2⟩:=hA.wn.moved E.rm E.rn
  have HX:=hide (⟨hW2,hF2⟩:_∧_)
  have HA:=hide hA
  have Hrun:=hide hrun
  clear hA hW2 hF2 hS2 hrun wf
  go_upto_if 22 with fail
  go_cut [] from 22 to 29 (fun wc=>AL E W wc b t m (E.beg p am an).1 (E.beg p am an).2 s p a cap)
  case first =>
   cases hpr:p.root with
   | true =>
    have e:E.beg p am an=(E.rm,E.rn):=by rw [En.beg,if_pos hpr]
    have HE:=hide e
    clear e
    go_wp2_with fail
    go_meet
    case rel =>
     rw [unhide HE]
     exact (unhide HA).walk (unhide HX).1 (unhide HX).2 (unhide Hrn)
   | false =>
    have e:E.beg p am an=(am,an):=by rw [En.beg,if_neg (by simp [hpr])]
    have HE:=hide e
    clear e
    go_wp2_with fail
    go_meet
    case rel =>
     rw [unhide HE]
     exact unhide HA
  case rest =>
   clear HA HX c0 c1 c2 w4 w5 w6 w7 wf6 x1 x2 y1 f1
   have hA:=hcut
   clear hcut
   obtain ⟨c0,c1,c2,-⟩:=cells3 hA.pa
   obtain ⟨-,-,-,-,-,-,w6,w7,-,-⟩:=hA.wn.cells
   obtain ⟨R1,hR1⟩:∃ R1,E.one fol p am an s=R1:=⟨_,rfl⟩
   have hR1':=hR1
   unfold En.one at hR1'
   obtain ⟨xm,hxm⟩:∃ xm,(E.beg p am an).1=xm:=⟨_,rfl⟩
   obtain ⟨xn,hxn⟩:∃ xn,(E.beg p am an).2=xn:=⟨_,rfl⟩
   rw [hxm,hxn] at hA hR1'
   rw [hxm] at w6
   rw [hxn] at w7
   obtain ⟨Z,hZ,gZ,hBZ⟩:∃ Z,wc.alloc (.cells #[I xm,I xn] 50)=Z∧Z.heap[wc.heap.size]?=some (.cells #[I xm,I xn] 50)∧Below wc.heap.size wc Z:=⟨_,rfl,heap_alloc_new _ _,(Below.refl _ _).alloc (Nat.le_refl _) _⟩
   have z2:=cell_be c2 hBZ
   have hsd:W.heap.size + 2≤wc.heap.size:=by have:=lt_of_heap hA.fd;omega
   have HAZ:=hide (⟨hA.below hBZ,gZ⟩:_∧_)
   have HR1:=hide hR1'
   have HR0:=hide hR1
   obtain ⟨n,hn⟩:∃ n,p.parts.length=n:=⟨_,rfl⟩
   have hnl:n≤5000:=by have:=wt_len p.parts;have:=hA.wt;omega
   have hncap:n≤cap:=by have:=hA.le;omega
   have hcm:cap≤9223372036854775807:=by have:=hA.mx;unfold maxLen at this;omega
   rw [hn] at z2 c2
   have Hn:=hide hn
   obtain ⟨dd,hdd⟩:∃ dd,dd=wc.heap.size:=⟨_,rfl⟩
   rw [← hdd] at HAZ hsd
   have Hdd:=hide hdd
   clear hA hxm hxn hR1 hR1' gZ hBZ hn c0 c1 hdd
   go_wp2_with fail
   rw [← unhide Hdd]
   clear hZ w6 w7
   go_loopw [10,37] (fun s10 s37 wq=>∃ (i:Nat) (last:Bytes) (am an dm dn:Int),i≤n∧s37=I (i:Int)∧s10=.string (bs last)∧Hid (AL E W wq b t m am an (s + i) p a cap∧wq.heap[dd]?=some (.cells #[I dm,I dn] 50)∧E.par fol p.slash (p.parts.drop i) dm dn last am an (s + i)=R1)) (fun _ s37 _=>n - (intOf s37).toNat)
   case atStart=>exact ⟨0,[],xm,xn,xm,xn,by omega,rfl,rfl,hide ⟨(unhide HAZ).1,(unhide HAZ).2,unhide HR1⟩⟩
   case round =>
    clear HAZ HR1 z2 c2
    obtain ⟨i,last,am,an,dm,dn,hi,rfl,rfl,HA⟩:=hrel
    by_cases hin:i < n
    ·obtain ⟨hA,hdc,hpar⟩:=unhide HA
     have hlen:i < p.parts.length:=by have:=unhide Hn;omega
     obtain ⟨q,hq⟩:∃ q,p.parts[i]?=some q:=⟨_,List.getElem?_eq_getElem hlen⟩
     obtain ⟨rest,hrest⟩:∃ rest,rest=p.parts.drop (i + 1):=⟨_,rfl⟩
     have hdrop:p.parts.drop i=q :: rest:=by
      rw [hrest,List.drop_eq_getElem_cons hlen]
      congr 1
      exact (List.getElem?_eq_some_iff.1 hq).2
     rw [hdrop,En.par] at hpar
     obtain ⟨S,hS⟩:∃ S,S=s + i:=⟨_,rfl⟩
     rw [← hS] at hA hpar
     have hSb:S≤300000:=by omega
     obtain ⟨X,hX,hXn,hXf,hXs⟩:=hA.wn.step
     have hAX:=hA.walk hXn hXf hA.wf
     have hdX:=(hXf.blk dd (lt_of_heap hdc) (by simp;omega)).trans hdc
     obtain ⟨bb,oo,pp,ha,-,hpp,hrowr⟩:=hAX.row.rest hlen hAX.le
     obtain ⟨bb',oo',pp',ha',hcell,-,-⟩:=hA.row.rest hlen hA.le
     have hadr:bb'=bb∧oo'=oo:=by
      rw [ha] at ha'
      simp only [Option.some.injEq,Addr.mk.injEq] at ha'
      exact ⟨ha'.1.symm,ha'.2.1.symm⟩
     rw [hadr.1,hadr.2,hq,Option.map_some] at hcell
     subst ha
     rw [← hrest] at hrowr
     obtain ⟨-,-,-,-,-,-,-,-,w8,wfz⟩:=hA.wn.cells
     have wf8:=wfz 8
     have i1:(i:Int) < (n:Int):=by omega
     have i0:(0:Int)≤(i:Int):=by omega
     obtain ⟨RF,hRF⟩:∃ RF,RF=E.refusal an:=⟨_,rfl⟩
     have DX:=hAX.d (unhide HD) (unhide Hw0)
     have H10:=hide (refusal_any DX hXn hA.wf)
     rw [← hRF] at H10 hpar
     have HH:=hide (⟨hAX,hdX,hpar,hrowr,hrest,hS,DX,hpp⟩:_∧_∧_∧_∧_∧_∧_∧_)
     clear hA hdc hpar hlen hq hdrop hrest hS hXn hXf hXs hAX hdX hRF DX hrowr HA wfz hpp ha' hadr
     go_wp2_with fail
     refine (unhide H10).mono ?_
     rintro e w2 ⟨rfl,hB2⟩
     have HB2:=hide hB2
     clear hB2 H10 hX w8 wf8 hcell
     by_cases hr0:RF=0
     ·subst hr0
      have HDt:=hide (dots_l q w2)
      obtain ⟨dq,hdq⟩:∃ dq,dots q=dq:=⟨_,rfl⟩
      rw [hdq] at HDt
      have hdi:isDots q=dq:=hdq
      cases dq with
      | true =>
       obtain ⟨hAX,hdX,hpar,hrowr,hrest,hS,DX,hpp⟩:=unhide HH
       have hB2:=unhide HB2
       rw [if_pos rfl,if_pos hdi] at hpar
       obtain ⟨x,hx⟩:∃ x,(E.dots q am an).1=x:=⟨_,rfl⟩
       obtain ⟨y,hy⟩:∃ y,(E.dots q am an).2=y:=⟨_,rfl⟩
       have hA2:=hAX.below hB2
       have H14:=hide (dots_any (DX.below hB2) hA2.wn hAX.wf q hdi x y hx hy)
       have hwy:(kl y).wf=true:=by
        rw [← hy]
        unfold En.dots
        split
        ·exact hAX.wf
        ·refine down_wf DX.wf (tup_wf DX.wk ?_)
         clear hpar hx hy H14
         have:∀ k x y,(kl y).wf=true→(kl (upF E.es k x y).2).wf=true:=by
          intro k
          induction k with
          | zero=>intro x y h;exact h
          | succ k ih =>
           intro x y h
           rw [upF]
           split
           ·exact ih _ _ (upN_wf DX.wf h)
           ·exact h
         exact this _ _ _ hAX.wf
       rw [hx,hy] at hpar
       have HK:=hide (⟨hA2,(hB2.block _ (lt_of_heap hdX)).trans hdX,hpar,hrest,hS,hwy⟩:_∧_∧_∧_∧_∧_)
       clear hAX hdX hpar hrowr hrest hS DX hpp hB2 hA2 hx hy HH HB2 hdq hdi hwy
       go_wp2_with fail
       refine (unhide HDt).mono ?_
       rintro e w3 ⟨rfl,hw3⟩
       rw [hw3]
       clear hw3 HDt
       go_wp2_with fail
       refine (unhide H14).mono ?_
       rintro e w4 ⟨rfl,hB4⟩
       obtain ⟨hA2,hd2,hpar,hrest,hS,hwy⟩:=unhide HK
       have hA4:=hA2.below hB4
       obtain ⟨X1,X2,⟨x1,x2⟩,⟨y1,f1⟩,hW2,hF2,hS2⟩:=hA4.wn.moved x y
       obtain ⟨-,-,-,-,-,-,w6,w7,-,wf⟩:=hA4.wn.cells
       have wf6:=wf 6
       have hA5:=hA4.walk hW2 hF2 hwy
       have hd5:=(hF2.blk dd (by have:=lt_of_heap hd2;have:=hB4.size;omega) (by simp;omega)).trans ((hB4.block _ (lt_of_heap hd2)).trans hd2)
       have HL:=hide (⟨hA5,hd5,hpar,hrest,hS⟩:_∧_∧_∧_∧_)
       clear hA2 hd2 hpar hrest hS hA4 hW2 hF2 hS2 hB4 hA5 hd5 HK H14 wf hwy
       go_wp2_with fail
       obtain ⟨hA5,hd5,hpar,hrest,hS⟩:=unhide HL
       rw [hrest,hS] at hpar
       rw [hS] at hA5
       exact ⟨⟨i + 1,[],x,y,dm,dn,by omega,rfl,rfl,hide ⟨hA5,hd5,hpar⟩⟩,by simp [intOf];omega⟩
      | false =>
       obtain ⟨hAX,hdX,hpar,hrowr,hrest,hS,DX,hpp⟩:=unhide HH
       have hB2:=unhide HB2
       have hdn:¬ isDots q=true:=by rw [hdi];simp
       rw [if_pos rfl,if_neg hdn] at hpar
       have hA2:=hAX.below hB2
       obtain ⟨c0,c1,c2,-⟩:=cells3 hA2.pa
       rw [unhide Hn] at c2
       have HK:=hide (⟨hA2,(hB2.block _ (lt_of_heap hdX)).trans hdX,hpar,hrowr.below hB2,hrest,hS,DX.below hB2⟩:_∧_∧_∧_∧_∧_∧_)
       clear hAX hdX hpar hrowr hrest hS DX hB2 hA2 HH HB2 hdq hdi hdn c0
       obtain ⟨K1,hK1⟩:∃ K1,i + 1=K1:=⟨_,rfl⟩
       rw [hK1] at hpp
       have HK1:=hide hK1
       have e1:(i:Int) + 1=(K1:Int):=by omega
       have k2:(0:Int)≤(K1:Int):=by omega
       have k3:(K1:Int)≤(n:Int):=by omega
       have k4:(n:Int)≤(cap:Int):=by omega
       have k5:K1≤5000:=by omega
       have e2:IntKind.i64.wrap ((i:Int) + 1)=(K1:Int):=by rw [e1,IntKind.wrap_i64];omega
       have e3:IntKind.i64.wrap (K1:Int)=(K1:Int):=by rw [IntKind.wrap_i64];omega
       have Hpp:=hide hpp
       clear hK1 hpp
       go_wp2_with fail
       refine (unhide HDt).mono ?_
       rintro e w3 ⟨rfl,hw3⟩
       rw [hw3]
       clear hw3 HDt
       go_wp2_with fail
       go_cut [14] from 63 to 70 (fun s14 wd=>∃ bh,s14=P0 bh∧wd.heap[bh]?=some (.cells #[.bool false,.bool p.slash,.slice (some ⟨bb,pp,none⟩) (n - K1) (cap - K1)] 234)∧Below w2.heap.size w2 wd)
       case first =>
        have hpp:=unhide Hpp
        by_cases hlc:cap=K1
        ·rw [if_pos hlc] at hpp
         simp only [Option.some.injEq,Addr.mk.injEq,true_and,and_true] at hpp
         subst hpp
         obtain rfl:n=K1:=by omega
         subst hlc
         clear e2 Hpp
         go_region_held3 (fun w'=>w'.cell? ⟨W.heap.size,1,none⟩=some (.bool p.slash)∧w'.cell? ⟨W.heap.size,2,none⟩=some (.slice (some ⟨bb,oo,none⟩) cap cap)) (go_keep) (fail)
         go_wp2_with fail
         go_meet
         case rel =>
          refine ⟨_,rfl,?_,below_drew ((Below.refl _ w2).alloc (Nat.le_refl _) _)⟩
          first
           | exact heap_alloc_new w2 _
           | (rw [Nat.sub_self];exact heap_alloc_new w2 _)
        ·rw [if_neg hlc] at hpp
         simp only [Option.some.injEq,Addr.mk.injEq,true_and,and_true] at hpp
         subst hpp
         have hlc2:¬ K1=cap:=fun e=>hlc e.symm
         go_region_held3 (fun w'=>w'.cell? ⟨W.heap.size,1,none⟩=some (.bool p.slash)∧w'.cell? ⟨W.heap.size,2,none⟩=some (.slice (some ⟨bb,oo,none⟩) n cap)) (go_keep) (fail)
         go_wp2_with fail
         go_meet
         case rel=>exact ⟨_,rfl,heap_alloc_new w2 _,below_drew ((Below.refl _ w2).alloc (Nat.le_refl _) _)⟩
       case rest =>
        obtain ⟨bh,rfl,hbh,hB3⟩:=hcut
        obtain ⟨hA2,hd2,hpar,hrowr,hrest,hS,D2⟩:=unhide HK
        have hA3:=hA2.below hB3
        have D3:=D2.below hB3
        have hd3:=(hB3.block _ (lt_of_heap hd2)).trans hd2
        have hrow3:=hrowr.below hB3
        have hrl:rest.length=n - K1:=by rw [hrest,List.length_drop,unhide Hn,unhide HK1]
        have Hrl:=hide hrl
        clear hrl
        clear HK hA2 hd2 hrowr D2 e1 e2 e3 k2 k3 k4 c1 c2 Hpp
        obtain ⟨x,hx⟩:∃ x,((E.find q am an).getD (0,0)).1=x:=⟨_,rfl⟩
        obtain ⟨y,hy⟩:∃ y,((E.find q am an).getD (0,0)).2=y:=⟨_,rfl⟩
        obtain ⟨f,hf⟩:∃ f,(E.find q am an).isSome=f:=⟨_,rfl⟩
        have H16:=hide (find_any D3 hA3.wn hA3.wf q x y f hx hy hf)
        have HK:=hide (⟨hA3,hd3,hpar,hrow3,hrest,hS,D3,hbh,hx,hy,hf⟩:_∧_∧_∧_∧_∧_∧_∧_∧_∧_∧_)
        clear hA3 hd3 hpar hrow3 hrest hS D3 hbh hx hy hf hB3
        go_wp2_with fail
        refine (unhide H16).mono ?_
        rintro e w4 ⟨rfl,hB4⟩
        obtain ⟨hA3,hd3,hpar,hrow3,hrest,hS,D3,hbh,hx,hy,hf⟩:=unhide HK
        obtain ⟨Z,hZ,gZ,hBZ⟩:∃ Z,w4.alloc (.cells #[I x,I y] 50)=Z∧Z.heap[w4.heap.size]?=some (.cells #[I x,I y] 50)∧Below w4.heap.size w4 Z:=⟨_,rfl,heap_alloc_new _ _,(Below.refl _ _).alloc (Nat.le_refl _) _⟩
        have hB5:=hB4.trans (hBZ.mono hB4.size)
        have hA5:=hA3.below hB5
        have D5:=D3.below hB5
        have hd5:=(hB5.block _ (lt_of_heap hd3)).trans hd3
        have hrow5:=hrow3.below hB5
        have hbh5:=(hB5.block _ (lt_of_heap hbh)).trans hbh
        have hdlt:dd < w4.heap.size:=Nat.lt_of_lt_of_le (lt_of_heap hd3) hB4.size
        obtain ⟨p0,p1,p2,-⟩:=cells3 hbh5
        have t0:Z.cell? ⟨w4.heap.size,0,none⟩=some (I x):=by rw [cell_of gZ];rfl
        have t1:Z.cell? ⟨w4.heap.size,1,none⟩=some (I y):=by rw [cell_of gZ];rfl
        clear HK H16 hA3 hd3 hrow3 D3 hbh hB4 hBZ hB5
        cases f with
        | false =>
         have hnone:E.find q am an=none:=by simpa using hf
         rw [hnone] at hpar
         simp only [] at hpar
         have hRR:R=R1:=by
          rw [← unhide Hrun,E.run_done hfol (by rw [unhide HR0,← hpar]),unhide HR0]
         have H18:=hide (missing_any hA5.wn q rest false p.slash (some ⟨bb,pp,none⟩) (cap - K1) (by have:=unhide Hrl;omega))
         rw [unhide Hrl] at H18
         obtain ⟨F,hF⟩:∃ F,F=missF q rest p.slash am an:=⟨_,rfl⟩
         obtain ⟨ee,hee⟩:∃ ee,ee=missE rest:=⟨_,rfl⟩
         rw [← hF,← hee] at H18
         unfold Fd.v at H18
         have HF:=hide (⟨hF,hee,hpar,hRR⟩:_∧_∧_∧_)
         have HA1:=hide hA5
         clear hA5 D5 hd5 hrow5 hbh5 gZ hpar hRR hF hee hx hy hf hnone Hrun HR0 Hn hrest hS
         go_wp2_with fail
         refine (unhide H18).mono ?_
         rintro e w5 ⟨rfl,hB5⟩
         have hA:=unhide HA1
         have g3:=(hB5.block _ (lt_of_heap hA.fd)).trans hA.fd
         unfold zfd at g3
         obtain ⟨r0,r1,r2,r3,r4,r5,r6,rf⟩:=cells7 g3
         obtain ⟨Y,hY,hYb,hYB⟩:=set7 g3 (I F.dm) (I F.dn) (.string (bs F.last)) (I F.am) (I F.an) (.bool F.has) (.bool F.slash)
         obtain ⟨z0,z1,z2,z3,z4,z5,z6,-⟩:=cells7 hYb
         have HY:=hide hY
         have HYB:=hide (hA.fin hB5 (hYB _ _ (Below.refl _ w5) (Nat.le_refl _)))
         clear hA g3 hY hYb hYB hB5 H18 hZ p0 p1 p2 t0 t1
         go_wp2_with fail
         rw [unhide HY]
         rw [Exit.noGoto_ret]
         refine bodyPost_ret (v:=.tuple #[.agg #[I F.dm,I F.dn,.string (bs F.last),I F.am,I F.an,.bool F.has,.bool F.slash],I ee]) (by simp [results,Tryz.results158,go_sem,z0,z1,z2,z3,z4,z5,z6]) rfl ?_
         obtain ⟨hF,hee,hpar,hRR⟩:=unhide HF
         rw [hRR,← hpar]
         refine ⟨?_,unhide HYB⟩
         rw [← hF,← hee]
         rfl
        | true =>
         obtain ⟨tt,htt⟩:=Option.isSome_iff_exists.1 hf
         rw [htt] at hpar hx hy
         simp only [Option.getD_some] at hx hy
         simp only [hx,hy] at hpar
         have hwy:(kl y).wf=true:=by
          rw [← hy]
          unfold En.find at htt
          rw [Option.map_eq_some_iff] at htt
          obtain ⟨k,hk1,hk2⟩:=htt
          rw [← hk2]
          refine down_wf D5.wf ?_
          unfold Tr.findN at hk1
          rw [Option.bind_eq_some_iff] at hk1
          obtain ⟨dx,hdx,hg⟩:=hk1
          obtain ⟨h1,h2⟩:=Tr.dir_some.1 hdx
          obtain ⟨yy,hyy⟩:=D5.wk.ent h1 (getE_some hg)
          exact D5.wk.wf (by omega) hyy
         obtain ⟨G,hG⟩:∃ G,E.goes y rest p.slash=G:=⟨_,rfl⟩
         rw [hG] at hpar
         obtain ⟨KK,hKK⟩:∃ KK,KK=E.T.kindOf y:=⟨_,rfl⟩
         have H19:=hide (kind_any D5 hA5.wn x y hwy)
         rw [← hKK] at H19
         obtain ⟨c0,c1,c2,-⟩:=cells3 hA5.pa
         have HK:=hide (⟨hA5,hd5,hpar,hrow5,hrest,hS,D5,hbh5,hwy,hG,hKK,gZ⟩:_∧_∧_∧_∧_∧_∧_∧_∧_∧_∧_∧_)
         clear hA5 hd5 hpar hrow5 hrest hS D5 hbh5 hwy hG hKK hx hy hf htt gZ c0 c2
         obtain ⟨sl,hsl⟩:∃ sl,sl=p.slash:=⟨_,rfl⟩
         rw [← hsl] at c1 p1
         have Hsl:=hide hsl
         clear hsl
         go_upto_region 19 with fail
         go_cut [101] from 85 to 100 (fun s101 we=>s101=.bool G∧Below Z.heap.size Z we)
         case first =>
          obtain ⟨-,-,-,-,-,-,-,-,-,hG,hKK,-⟩:=unhide HK
          unfold En.goes at hG
          rw [← unhide Hsl] at hG
          have hre:rest.isEmpty=decide (n - K1=0):=by
           rw [← unhide Hrl]
           cases rest <;> simp
          rw [hre,← hKK,unhide Hfw] at hG
          clear hre hKK Hfw
          by_cases hk3:KK=3
          ·subst hk3
           by_cases hr:n - K1=0
           ·rw [hr] at p2
            cases fw with
            | true =>
             obtain rfl:true=G:=by rw [← hG];simp [hr]
             clear hG
             go_wp2_with fail
             refine (unhide H19).mono ?_
             rintro e w5 ⟨rfl,hB5⟩
             have q2:=cell_be p2 hB5
             have HB5:=hide hB5
             clear hB5
             go_wp2_with fail
             go_meet
             case rel=>exact ⟨rfl,unhide HB5⟩
            | false =>
             obtain rfl:sl=G:=by rw [← hG];simp [hr]
             clear hG
             go_wp2_with fail
             refine (unhide H19).mono ?_
             rintro e w5 ⟨rfl,hB5⟩
             have q2:=cell_be p2 hB5
             have q1:=cell_be c1 hB5
             have HB5:=hide hB5
             clear hB5
             go_wp2_with fail
             go_meet
             case rel=>exact ⟨rfl,unhide HB5⟩
           ·obtain rfl:true=G:=by rw [← hG];simp [hr]
            obtain ⟨L,hL⟩:∃ L,n - K1=L:=⟨_,rfl⟩
            rw [hL] at p2 hr
            have hL1:(0:Int) < (L:Int):=by omega
            clear hG hL
            go_wp2_with fail
            refine (unhide H19).mono ?_
            rintro e w5 ⟨rfl,hB5⟩
            have q2:=cell_be p2 hB5
            have HB5:=hide hB5
            clear hB5
            go_wp2_with fail
            go_meet
            case rel=>exact ⟨rfl,unhide HB5⟩
          ·obtain rfl:false=G:=by rw [← hG];simp [hk3]
           clear hG
           go_wp2_with fail
           refine (unhide H19).mono ?_
           rintro e w5 ⟨rfl,hB5⟩
           have HB5:=hide hB5
           clear hB5
           go_wp2_with fail
           go_meet
           case rel=>exact ⟨rfl,unhide HB5⟩
         case rest =>
          obtain ⟨rfl,hBe⟩:=hcut
          obtain ⟨hA5,hd5,hpar,hrow5,hrest,hS,D5,hbh5,hwy,hG,hKK,gZ⟩:=unhide HK
          have hA6:=hA5.below hBe
          have D6:=D5.below hBe
          have hd6:=(hBe.block _ (lt_of_heap hd5)).trans hd5
          have hrow6:=hrow5.below hBe
          have hbh6:=(hBe.block _ (lt_of_heap hbh5)).trans hbh5
          have gZ6:=(hBe.block _ (lt_of_heap gZ)).trans gZ
          clear HK H19 p0 p1 p2 t0 t1 c1 hZ hA5 hd5 hrow5 D5 hbh5 gZ hBe hG hKK
          have t0:wc.cell? ⟨w4.heap.size,0,none⟩=some (I x):=by rw [cell_of gZ6];rfl
          have t1:wc.cell? ⟨w4.heap.size,1,none⟩=some (I y):=by rw [cell_of gZ6];rfl
          cases G with
          | false =>
           rw [if_neg (by simp)] at hpar
           obtain ⟨-,-,-,-,-,-,w6,w7,-,wf⟩:=hA6.wn.cells
           obtain ⟨Y1,Y2,⟨y1,y2⟩,⟨v0,v1⟩,⟨g0,g1⟩,hYd,hYf,hYs⟩:=Mt.store2 hd6 (I am) (I an)
           have hbd:b≠dd:=by omega
           have hWY:Wn Y2 b t m E am an (S + 1):=(hYf.blk b hA6.wn.lt (by simpa using hbd)).trans hA6.wn
           have hAY:=hA6.turn hd6 hsd hWY (hYf.mono (by simp)) hA6.wf
           obtain ⟨X1,X2,⟨x1,x2⟩,⟨u1,f1⟩,hW2,hF2,hS2⟩:=hWY.moved x y
           have hA8:=hAY.walk hW2 hF2 hwy
           have hd8:=(hF2.blk dd (lt_of_heap hYd) (by simp;omega)).trans hYd
           obtain ⟨-,-,-,-,-,-,m6,m7,-,mf⟩:=hWY.cells
           have mf6:=mf 6
           have ndt:dd≠w4.heap.size:=by omega
           have ntd:w4.heap.size≠dd:=by omega
           have ndb:dd≠b:=by omega
           have s0:Y2.cell? ⟨w4.heap.size,0,none⟩=some (I x):=cell_kp t0 (hYf.blk _ (lt_of_heap gZ6) (by simpa using ntd))
           have s1:Y2.cell? ⟨w4.heap.size,1,none⟩=some (I y):=cell_kp t1 (hYf.blk _ (lt_of_heap gZ6) (by simpa using ntd))
           have HL:=hide (⟨hA8,hd8,hpar,hrest,hS⟩:_∧_∧_∧_∧_)
           clear hA6 D6 hd6 hrow6 hbh6 gZ6 hpar hrest hS hYd hYf hYs hWY hAY hW2 hF2 hS2 hA8 hd8 wf mf hwy
           go_wp2_with fail
           go_region
           go_wp2_with fail
           obtain ⟨hA8,hd8,hpar,hrest,hS⟩:=unhide HL
           rw [hrest,hS] at hpar
           rw [hS] at hA8
           exact ⟨⟨i + 1,q,x,y,am,an,by omega,rfl,rfl,hide ⟨hA8.below (below_drew (Below.refl _ _)),hd8,hpar⟩⟩,by simp [intOf];omega⟩
          | true =>
           rw [if_pos rfl] at hpar
           obtain ⟨x0,hx0⟩:∃ x0,onE fol (E.text y) p.slash rest=x0:=⟨_,rfl⟩
           rw [hx0] at hpar
           obtain ⟨txt,htxt⟩:∃ txt,E.text y=txt:=⟨_,rfl⟩
           rw [htxt] at hpar hx0
           obtain ⟨w0,-⟩:=hA6.wn.cells
           obtain ⟨p0,p1,p2,-⟩:=cells3 hbh6
           have hwtr:Nm.wt rest≤10000:=by
            have h1:=wt_drop p.parts (i + 1)
            rw [← hrest] at h1
            have:=hA6.wt
            omega
           have htl:txt.length≤281474976710656:=by
            rw [← htxt]
            unfold En.text Tr.textOf
            split
            ·rename_i xx hxx
             have:=D6.wk.txt y xx hxx
             show xx.text.data.toList.length≤_
             rw [Array.length_toList]
             exact this
            ·simp
           have HT:=hide (fun V g=>text_W D6 hwy htxt V g)
           have HO:=hide (fun (V:World) (g:Below wc.heap.size wc V)=>onward_any fol hfol txt htl p.slash bb pp (cap - K1) rest (unhide Hrl) (hrow6.below g) hwtr x0 hx0)
           have HK:=hide (⟨hA6,hx0,hpar,hrest,hS⟩:_∧_∧_∧_∧_)
           have hbw:b < wc.heap.size:=hA6.wn.lt
           have hbhw:bh < wc.heap.size:=lt_of_heap hbh6
           have htw:w4.heap.size < wc.heap.size:=lt_of_heap gZ6
           have hhw:W.heap.size + 2≤wc.heap.size:=by have:=lt_of_heap hA6.fd;omega
           clear hA6 D6 hd6 hpar hrest hS hrow6 hbh6 gZ6 hwy hx0 htxt hwtr htl
           go_wp2_with fail
           go_cut [17,18] from 102 to 114 (fun s17 s18 wf=>∃ (bn:Nat) (ro ns:Bool) (a7:Option Addr) (k7 c7:Nat),s17=P0 bn∧s18=I x0∧On wc wf bn ro ns a7 k7 c7 x0 (onP txt p.slash rest))
           case first =>
            have nw1:b≠wc.heap.size:=by omega
            have nw2:bh≠wc.heap.size:=by omega
            have nw3:w4.heap.size≠wc.heap.size:=by omega
            go_region_held3 (fun w'=>w'.cell? ⟨b,0,none⟩=some (P0 t)∧w'.cell? ⟨w4.heap.size,1,none⟩=some (I y)∧w'.cell? ⟨bh,0,none⟩=some (.bool false)∧w'.cell? ⟨bh,1,none⟩=some (.bool p.slash)∧w'.cell? ⟨bh,2,none⟩=some (.slice (some ⟨bb,pp,none⟩) (n - K1) (cap - K1))) (go_keep)
             (first
              | (go_at_call 58;refine (unhide HT (wc.alloc (.cells #[.bool false,.bool false,.slice none 0 0] 234)).drew (below_drew ((Below.refl _ wc).alloc (Nat.le_refl _) _))).mono ?_;rintro e w6 ⟨rfl,HB6⟩;have hB6:=(below_drew ((Below.refl wc.heap.size wc).alloc (Nat.le_refl _) (.cells #[.bool false,.bool false,.slice none 0 0] 234))).trans ((unhide HB6).mono (by show wc.heap.size≤(wc.alloc _).heap.size;simp));have hz6:=((unhide HB6).block wc.heap.size (by show wc.heap.size < (wc.alloc _).heap.size;simp)).trans (heap_alloc_new wc (.cells #[.bool false,.bool false,.slice none 0 0] 234));have q0:=cell_be w0 hB6;have q1:=cell_be t1 hB6;have q2:=cell_be p0 hB6;have q3:=cell_be p1 hB6;have q4:=cell_be p2 hB6;have HBZ:=hide (⟨hB6,hz6⟩:_∧_);clear hB6 hz6)
              | (go_at_call 58;refine (unhide HT wc.drew (below_drew (Below.refl _ wc))).mono ?_;rintro e w6 ⟨rfl,HB6⟩;have hB6:=(below_drew (Below.refl wc.heap.size wc)).trans (unhide HB6);have q0:=cell_be w0 hB6;have q1:=cell_be t1 hB6;have q2:=cell_be p0 hB6;have q3:=cell_be p1 hB6;have q4:=cell_be p2 hB6;have HBN:=hide hB6;clear hB6)
              | (go_at_call 237;refine (unhide HO w6 (unhide HBZ).1).mono ?_;rintro e w7 ⟨ro,ns,a7,k7,c7,rfl,Hx7,HB7⟩;have h8:=On.ahead (unhide HBZ).1 (unhide HBZ).2 (Nat.le_refl _) (unhide HB7) (unhide Hx7);obtain ⟨X1,X2,Y,⟨x1,x2,x3⟩,⟨c0,c1,c2⟩,⟨f0,f1,f2⟩,HOn,hYk,hB7⟩:=h8;have r0:=cell_be w0 hB7;have r1:=cell_be t1 hB7;have r2:=cell_be p0 hB7;have r3:=cell_be p1 hB7;have r4:=cell_be p2 hB7;have s0:=cell_kp w0 (hYk _ hbw);have s1:=cell_kp t1 (hYk _ htw);have s2:=cell_kp p0 (hYk _ hbhw);have s3:=cell_kp p1 (hYk _ hbhw);have s4:=cell_kp p2 (hYk _ hbhw);clear hYk hB7)
              | (go_at_call 237;refine (unhide HO (w6.alloc (.cells #[.bool false,.bool false,.slice none 0 0] 234)) ((unhide HBN).alloc (unhide HBN).size _)).mono ?_;rintro e w7 ⟨ro,ns,a7,k7,c7,rfl,Hx7,HB7⟩;have h8:=On.ahead ((unhide HBN).alloc (unhide HBN).size _) (heap_alloc_new w6 (.cells #[.bool false,.bool false,.slice none 0 0] 234)) (unhide HBN).size (unhide HB7) (unhide Hx7);obtain ⟨X1,X2,Y,⟨x1,x2,x3⟩,⟨c0,c1,c2⟩,⟨f0,f1,f2⟩,HOn,hYk,hB7⟩:=h8;have r0:=cell_be w0 hB7;have r1:=cell_be t1 hB7;have r2:=cell_be p0 hB7;have r3:=cell_be p1 hB7;have r4:=cell_be p2 hB7;have s0:=cell_kp w0 (hYk _ hbw);have s1:=cell_kp t1 (hYk _ htw);have s2:=cell_kp p0 (hYk _ hbhw);have s3:=cell_kp p1 (hYk _ hbhw);have s4:=cell_kp p2 (hYk _ hbhw);clear hYk hB7)
              | (go_at_call 237;refine (unhide HO w6 (unhide HBN)).mono ?_;rintro e w7 ⟨ro,ns,a7,k7,c7,rfl,Hx7,HB7⟩;obtain ⟨HOn,hB7⟩:=On.behind (unhide HBN) (unhide HB7) (unhide Hx7);have r0:=cell_be w0 hB7;have r1:=cell_be t1 hB7;have r2:=cell_be p0 hB7;have r3:=cell_be p1 hB7;have r4:=cell_be p2 hB7;clear hB7))
            all_goals
             go_wp2_with fail
             go_meet
             case rel=>exact ⟨_,ro,ns,a7,k7,c7,rfl,rfl,unhide HOn⟩
           case rest =>
            obtain ⟨bn,ro,ns,a7,k7,c7,rfl,rfl,hOn⟩:=hcut
            obtain ⟨hA6,hx0,hpar,hrest,hS⟩:=unhide HK
            have hA7:=hA6.below hOn.be
            obtain ⟨b0,b1,b2,-⟩:=cells3 hOn.g
            clear w0 p0 p1 p2 t0 t1 HT HO
            by_cases hx:x0=0
            ·rw [if_pos hx] at hpar
             obtain ⟨e1,e2,e3,own⟩:=hOn.ok hx
             obtain ⟨hf40,hrn⟩:=E.run_next hfol (q:=onP txt p.slash rest) (by rw [unhide HR0,← hpar])
             rw [unhide HR0,← hpar,unhide Hrun] at hrn
             simp only [] at hrn
             have hwt':=onP_wt (hx0.trans hx)
             obtain ⟨pq,hpq⟩:∃ pq,pq=onP txt p.slash rest:=⟨_,rfl⟩
             rw [← hpq] at e1 e2 e3 own hrn hwt'
             obtain ⟨X1,X2,Y,⟨x1,x2,x3⟩,⟨c0,c1,c2⟩,⟨f0,f1,f2⟩,hYb,hYB,hYk,hYs⟩:=set3 hA7.pa (.bool ro) (.bool ns) (.slice a7 k7 c7)
             have hbnW:bn≠W.heap.size:=by have:=hOn.le;omega
             have hcap:pq.parts.length≤c7∧c7≤maxLen:=by
              obtain ⟨hl,⟨h1,hz⟩ | ⟨g',cap',cur,h1,-,-,hcap,hcm,-,-⟩⟩:=own
              ·simp only [Value.slice.injEq] at h1
               unfold maxLen
               omega
              ·simp only [Value.slice.injEq] at h1
               obtain ⟨-,-,rfl⟩:=h1
               exact ⟨hcap,hcm⟩
             have hrw:Rw Y a7 pq.parts:=(Rw.of_own own).keep fun k cur hc=>hYk k (by rintro rfl;rw [hA7.pa] at hc;simp at hc)
             have hYZ:=hYB W.heap.size _ (Below.refl _ _) (Nat.le_refl _)
             have hAn:AL E W Y b t m am an (S + 1) pq a7 c7 :=
              ⟨(hYk b n1).trans hA7.wn,by rw [hYb,e1,e2,e3],(hYk _ n6).trans hA7.fd,hrw,hcap.1,hcap.2,⟨hYZ.os.trans hA7.fr.os,hYZ.tape.trans hA7.fr.tape,hYZ.output.trans hA7.fr.output,Nat.le_trans hA7.fr.size hYZ.size,fun k hk hn=>(hYk k (by omega)).trans (hA7.fr.blk k hk hn)⟩,hA6.bw,hA6.wf,hwt'⟩
             ·have HL:=hide (⟨hAn,hrn,hS⟩:_∧_∧_)
              subst hx
              clear hA6 hA7 hOn hx0 hpar hrest hS own hYb hYB hYk hYs hcap hrw hAn hYZ hrn hwt' e1 e2 e3 HK hpq
              go_wp2_with fail
              obtain ⟨hAn,hrn,hS⟩:=unhide HL
              exact ⟨⟨fol + 1,pq,am,an,S + 1,a7,c7,by omega,rfl,hide ⟨hAn,hrn.symm,by omega⟩⟩,by simp [intOf];omega⟩
            ·rw [if_neg hx] at hpar
             have hRR:R=R1:=by
              rw [← unhide Hrun,E.run_done hfol (by rw [unhide HR0,← hpar]),unhide HR0]
             have g3:=hA7.fd
             unfold zfd at g3
             obtain ⟨r0,r1,r2,r3,r4,r5,r6,rf⟩:=cells7 g3
             obtain ⟨Y,hY,hYb,hYB⟩:=set7 g3 (I 0) (I 0) (.string ⟨#[]⟩) (I 0) (I 0) (.bool false) (.bool false)
             obtain ⟨z0,z1,z2,z3,z4,z5,z6,-⟩:=cells7 hYb
             have HY:=hide hY
             have HYB:=hide (hA7.fin (Below.refl _ _) (hYB _ _ (Below.refl _ _) (Nat.le_refl _)))
             have HF:=hide (⟨hpar,hRR⟩:_∧_)
             have hr1:(x0 != 0)=true:=by simpa using hx
             clear hA6 hA7 hOn hx0 hpar hrest hS hRR g3 hY hYb hYB HK Hrun HR0 Hn
             go_wp2_with fail
             rw [unhide HY]
             rw [Exit.noGoto_ret]
             refine bodyPost_ret (v:=.tuple #[.agg #[I 0,I 0,.string ⟨#[]⟩,I 0,I 0,.bool false,.bool false],I x0]) (by simp [results,Tryz.results158,go_sem,z0,z1,z2,z3,z4,z5,z6]) rfl ?_
             obtain ⟨hpar,hRR⟩:=unhide HF
             rw [hRR,← hpar]
             exact ⟨rfl,unhide HYB⟩
     ·obtain ⟨hAX,hdX,hpar,hrowr,hrest,hS,DX,hpp⟩:=unhide HH
      rw [if_neg hr0] at hpar
      have hRR:R=R1:=by
       rw [← unhide Hrun,E.run_done hfol (by rw [unhide HR0,← hpar]),unhide HR0]
      have hB2:=unhide HB2
      have g3:=(hB2.block _ (lt_of_heap hAX.fd)).trans hAX.fd
      unfold zfd at g3
      obtain ⟨r0,r1,r2,r3,r4,r5,r6,rf⟩:=cells7 g3
      obtain ⟨Y,hY,hYb,hYB⟩:=set7 g3 (I 0) (I 0) (.string ⟨#[]⟩) (I 0) (I 0) (.bool false) (.bool false)
      obtain ⟨z0,z1,z2,z3,z4,z5,z6,-⟩:=cells7 hYb
      have HY:=hide hY
      have HYB:=hide (hAX.fin hB2 (hYB _ _ (Below.refl _ w2) (Nat.le_refl _)))
      have HF:=hide (⟨hpar,hRR⟩:_∧_)
      have hr1:(RF != 0)=true:=by simpa using hr0
      clear hAX hdX hpar hrowr hrest hS DX hpp hRR hB2 g3 hY hYb hYB HH HB2 Hrun HR0 Hn
      go_wp2_with fail
      rw [unhide HY]
      rw [Exit.noGoto_ret]
      refine bodyPost_ret (v:=.tuple #[.agg #[I 0,I 0,.string ⟨#[]⟩,I 0,I 0,.bool false,.bool false],I RF]) (by simp [results,Tryz.results158,go_sem,z0,z1,z2,z3,z4,z5,z6]) rfl ?_
      obtain ⟨hpar,hRR⟩:=unhide HF
      rw [hRR,← hpar]
      exact ⟨rfl,unhide HYB⟩
    ·obtain rfl:i=n:=by omega
     obtain ⟨hA,hdc,hpar⟩:=unhide HA
     obtain ⟨c0,c1,c2,-⟩:=cells3 hA.pa
     have d0:wr.cell? ⟨dd,0,none⟩=some (I dm):=by rw [cell_of hdc];rfl
     have d1:wr.cell? ⟨dd,1,none⟩=some (I dn):=by rw [cell_of hdc];rfl
     rw [List.drop_eq_nil_of_le (by have:=unhide Hn;omega),En.par] at hpar
     have hRR:R=R1:=by
      rw [← unhide Hrun,E.run_done hfol (by rw [unhide HR0,← hpar]),unhide HR0]
     have HEnd:=hide (end_any (hA.d (unhide HD) (unhide Hw0)) hA.wn hA.wf dm dn last p.slash)
     obtain ⟨F,hF⟩:∃ F,F=E.endF dm dn last am an p.slash:=⟨_,rfl⟩
     obtain ⟨ee,hee⟩:∃ ee,ee=E.endE an p.slash:=⟨_,rfl⟩
     rw [← hF,← hee] at HEnd
     unfold Fd.v at HEnd
     have z:¬ ((i:Int) < (i:Int)):=by omega
     have HF:=hide (⟨hF,hee,hpar,hRR⟩:_∧_∧_∧_)
     have HA1:=hide hA
     clear hA hdc hpar hRR hF hee HA c0 c2 Hrun HR0 Hn
     go_wp2_with fail
     refine (unhide HEnd).mono ?_
     rintro e w3 ⟨rfl,hB3⟩
     have hA:=unhide HA1
     have g3:=(hB3.block _ (lt_of_heap hA.fd)).trans hA.fd
     unfold zfd at g3
     obtain ⟨r0,r1,r2,r3,r4,r5,r6,rf⟩:=cells7 g3
     obtain ⟨Y,hY,hYb,hYB⟩:=set7 g3 (I F.dm) (I F.dn) (.string (bs F.last)) (I F.am) (I F.an) (.bool F.has) (.bool F.slash)
     obtain ⟨z0,z1,z2,z3,z4,z5,z6,-⟩:=cells7 hYb
     have HY:=hide hY
     have HYB:=hide (hA.fin hB3 (hYB _ _ (Below.refl _ w3) (Nat.le_refl _)))
     clear hA g3 hY hYb hYB hB3 HEnd
     go_wp2_with fail
     rw [unhide HY]
     rw [Exit.noGoto_ret]
     refine bodyPost_ret (v:=.tuple #[.agg #[I F.dm,I F.dn,.string (bs F.last),I F.am,I F.an,.bool F.has,.bool F.slash],I ee]) (by simp [results,Tryz.results158,go_sem,z0,z1,z2,z3,z4,z5,z6]) rfl ?_
     obtain ⟨hF,hee,hpar,hRR⟩:=unhide HF
     rw [hRR,← hpar]
     refine ⟨?_,unhide HYB⟩
     rw [← hF,← hee]
     rfl
end
attribute [local go_sem ↓] Go.wp_at_zero Go.wp_at_succ
def En.downed (E:En):En:={ E with rm:=(E.down E.rm E.rn).1,rn:=(E.down E.rm E.rn).2 }
def En.walk (E:En) (fm fn:Int) (path:Bytes):Re :=
 if (E.place E.rm E.rn && E.place fm fn)=true then
  if Nm.err path=0 then E.downed.run 40 ⟨Nm.rt path,Nm.sl path,Nm.ps path⟩ (E.down fm fn).1 (E.down fm fn).2 0
  else ⟨none,Fd.none,Nm.err path,0,0,0⟩
 else ⟨none,Fd.none,1,0,0,0⟩
section
variable {lo N mb:Nat} {W:World} {t m b:Nat} {E:En} {am an:Int} {s:Nat} {p:Pa} {a:Option Addr} {cap:Nat}
theorem Wd.downed (D:Wd lo N mb W t m E):Wd lo N mb W t m E.downed:=⟨D.tp,D.wk,D.ls,D.el,D.le,D.wf⟩
theorem root_W (D:Wd lo N mb W t m E) (x:Int) {v:Int} {f:Bool} (hv:Mt.rootTop E.rt E.es x=v) (hf:Mt.rootIs E.es x=f) (V:World) (g:Below W.heap.size W V) :
  Calls Tryz.prog 105 #[P0 m,I x] V fun e w'=>e=.returned (.tuple #[I v,.bool f])∧Hid (Below V.heap.size V w'):=by
 rw [← hv,← hf]
 exact Mt.root_any mb m E.rt E.md x E.es V (D.ls.below g) D.le
theorem place_any (D:Wd lo N mb W t m E) (x y:Int) (hn:(kl y).wf=true) (r:Bool) (hr:E.place x y=r) :
  Calls Tryz.prog 32 #[P0 t,P0 m,.agg #[I x,I y]] W fun e w'=>e=.returned (.bool r)∧Below W.heap.size W w':=by
 obtain ⟨a,mo,u,g,l,z,hst,-⟩:=stat_shape E.T y
 obtain ⟨f,hf⟩:∃ f,(E.T.nd y).isSome=f:=⟨_,rfl⟩
 obtain ⟨K,hK⟩:∃ K,K=E.T.kindOf y:=⟨_,rfl⟩
 rw [← hK] at hst
 obtain ⟨f2,hf2⟩:∃ f,Mt.rootIs E.es x=f:=⟨_,rfl⟩
 obtain ⟨V,hV,g1,hB⟩:∃ V,W.alloc (.cells #[I x,I y] 50)=V∧V.heap[W.heap.size]?=some (.cells #[I x,I y] 50)∧Below W.heap.size W V:=⟨_,rfl,heap_alloc_new W _,(Below.refl _ W).alloc (Nat.le_refl _) _⟩
 have v0:V.cell? ⟨W.heap.size,0,none⟩=some (I x):=by rw [cell_of g1];rfl
 have v1:V.cell? ⟨W.heap.size,1,none⟩=some (I y):=by rw [cell_of g1];rfl
 have HS:=hide (stat_W D hn hst hf V hB)
 have HR:=hide (fun V' g'=>root_W D x rfl hf2 V' g')
 have HB:=hide hB
 have hl:=lt_of_heap g1
 have er:r=(f && f2):=by rw [← hr,En.place,hf,hf2]
 have Her:=hide er
 clear D hst hf hK hn hB g1 hf2 hr er
 generalize Mt.rootTop E.rt E.es x=tp at *
 go_enter Tryz.func32,Tryz.ntmps32
 go_wp2_with fail
 refine (unhide HS).mono ?_
 rintro e w2 ⟨rfl,HB2⟩
 obtain ⟨Z,hZ,hBZ⟩:∃ Z,w2.alloc (.cells #[I a,I K,I mo,I u,I g,I l,I z] 33)=Z∧Below V.heap.size V Z:=⟨_,rfl,(unhide HB2).alloc (unhide HB2).size _⟩
 have u0:=cell_be v0 hBZ
 have HBW:=hide ((unhide HB).trans (hBZ.mono (Nat.le_of_lt hl)))
 have HR2:=hide (unhide HR Z (unhide HBW))
 clear v0 v1 HS HB2 hBZ HR
 go_wp2_with fail
 refine (unhide HR2).mono ?_
 rintro e w3 ⟨rfl,HB3⟩
 have HF:=hide ((unhide HBW).trans ((unhide HB3).mono (unhide HBW).size))
 clear HR2 HB3 HBW u0 hZ
 cases f with
 | true =>
  go_wp2_with fail
  go_ret
  exact ⟨by rw [unhide Her];simp,unhide HF⟩
 | false =>
  go_wp2_with fail
  go_ret
  exact ⟨by rw [unhide Her];simp,unhide HF⟩
end
end Go.Proofs.YtlngeaacjbdmhaaGreat.Wl
