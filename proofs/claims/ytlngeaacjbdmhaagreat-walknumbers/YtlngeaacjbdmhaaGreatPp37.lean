/-
 The document's Walk,where it is walked.
-/
import Derived.Test.YtlngeaacjbdmhaaGreatPp36
import Derived.Deep.CutBlock
import Derived.Test.YtlngeaacjbdmhaaGreatPp35
import Derived.Test.YtlngeaacjbdmhaaGreatPp20
import Derived.Test.YtlngeaacjbdmhaaGreatPp33
import Derived.ProofKit
import Derived.Deep.Slices
import Derived.SliceStrings
import Derived.Deep.Grids
set_option maxRecDepth 100000
set_option maxHeartbeats 4000000
namespace Go.Proofs.YtlngeaacjbdmhaaGreat.Wl
open Go.RowKit
attribute [local go_sem ↓] Go.wp_at_zero Go.wp_at_succ
section
variable {lo R:Nat} {W:World} {r b:Nat} {E:En} {rs:List Mt.Rm}
theorem own_ro2 {lo:Nat} {a:Option Addr} {m cap n:Nat} {q:List Bytes} (h:W.ownsRow lo 9 1 (.slice a m cap) n (Nm.strs q)) (hb:W.heap.size≤b):Ro W b a q:=by
 refine ⟨Nm.RowO.of_own h,?_⟩
 rintro x rfl
 obtain ⟨-,⟨e,-⟩ | ⟨g,c,cur,e,-,hg,-⟩⟩:=h
 ·injection e with e1;cases e1
 ·injection e with e1
  injection e1 with e2
  subst e2
  have:=lt_of_heap hg
  show g≠b
  omega
theorem rwalk_yes (D:Rd lo R W r E rs) (fm fn:Int) (hr:(kl E.rn).wf=true) (hf:(kl fn).wf=true) (path:Bytes) (hp:(E.place E.rm E.rn && E.place fm fn)=true) (hx:Nm.err path=0) (Z0:Re) (hR:E.downed.run 40 ⟨Nm.rt path,Nm.sl path,Nm.ps path⟩ (E.down fm fn).1 (E.down fm fn).2 0=Z0) :
  Calls Tryz.prog 29 #[P0 r,P0 (R + 1),.agg #[I E.rm,I E.rn],.agg #[I fm,I fn],.agg #[I E.cu,I E.cg],.string (bs path),.bool E.follow] W fun e w'=>e=.returned (.tuple #[Z0.f.v,I Z0.why,I (Z0.steps:Int)])∧Below W.heap.size W w':=by
 obtain ⟨V,hV,g1,g2,g3,g4,hB,hs⟩:=four_new W (.cells #[I E.rm,I E.rn] 50) (.cells #[I fm,I fn] 50) (.cells #[I E.cu,I E.cg] 57) zrf
 unfold zrf at hV g4
 obtain ⟨v0,v1⟩:=Mt.cells2 g1
 obtain ⟨v2,v3⟩:=Mt.cells2 g2
 simp only [Bool.and_eq_true] at hp
 have H1:=hide (rplace_any (D.below hB) E.rm E.rn hr true hp.1)
 have H2:=hide (fun (V':World) (g':Below V.heap.size V V')=>rplace_any ((D.below hB).below g') fm fn hf true hp.2)
 have HRd:=hide (rread_own path)
 rw [hx] at HRd
 have hps:Nm.wt (Nm.ps path)≤5000:=by
  have h1:=(Nm.err_ok hx).2.1
  have h2:=Nm.wt_parts _ path (Nat.le_refl _)
  have h3:Nm.ende path≤1:=by unfold Nm.ende;split <;> omega
  rw [Nm.ps,if_pos hx]
  omega
 generalize Nm.rt path=ro at *
 generalize Nm.sl path=st at *
 generalize Nm.ps path=ps at *
 have HG:=hide (⟨g1,g2,g3,g4,hB,hs,D,hr,hf,hps,hR⟩:_∧_∧_∧_∧_∧_∧_∧_∧_∧_∧_)
 obtain ⟨fw,hfw⟩:∃ fw,E.follow=fw:=⟨_,rfl⟩
 rw [hfw]
 have Hfw:=hide hfw
 clear D g1 g2 g3 g4 hB hs hr hf hp hx hps hR hfw
 go_enter Tryz.func29,Tryz.ntmps29
 go_wp2_with fail
 refine (unhide H1).mono ?_
 rintro e w2 ⟨rfl,hB2⟩
 have q0:=cell_be v2 hB2
 have q1:=cell_be v3 hB2
 have H3:=hide (unhide H2 w2 hB2)
 have HB2:=hide hB2
 clear H1 H2 hB2 v0 v1 v2 v3
 go_wp2_with fail
 refine (unhide H3).mono ?_
 rintro e w3 ⟨rfl,hB3'⟩
 have HB3:=hide ((unhide HB2).trans (hB3'.mono (unhide HB2).size))
 clear hB3' HB2 H3 q0 q1
 go_wp2_with fail
 refine (unhide HRd w3).mono ?_
 rintro e w4 ⟨v,rfl,own,hB4⟩
 obtain ⟨a,vc,rfl⟩:=Nm.own_form own
 obtain ⟨g1,g2,g3,g4,hB,hs,D,hr,hf,hps,hR⟩:=unhide HG
 obtain ⟨Z,hZ,gZ,hBZ⟩:∃ Z,w4.alloc (.cells #[.bool ro,.bool st,.slice a ps.length vc] 171)=Z∧Z.heap[w4.heap.size]?=some (.cells #[.bool ro,.bool st,.slice a ps.length vc] 171)∧Below w4.heap.size w4 Z:=⟨_,rfl,heap_alloc_new _ _,(Below.refl _ _).alloc (Nat.le_refl _) _⟩
 have hB34:=(unhide HB3).trans (hB4.mono (unhide HB3).size)
 have hB5:Below V.heap.size V Z:=hB34.trans (hBZ.mono hB34.size)
 obtain ⟨a0,a1⟩:=Mt.cells2 ((hB5.block _ (by omega)).trans g1)
 obtain ⟨b0,b1⟩:=Mt.cells2 ((hB5.block _ (by omega)).trans g2)
 obtain ⟨d0,d1⟩:=Mt.cells2 ((hB5.block _ (by omega)).trans g3)
 have k4:=(hB5.block _ (by omega)).trans g4
 have hBW:Below W.heap.size W Z:=hB.trans (hB5.mono (by omega))
 have DZ:=D.below hBW
 have HDn:=hide (fun x y V' g'=>down_R DZ x y rfl rfl V' g')
 have hwf1:(kl (E.down E.rm E.rn).2).wf=true:=down_wf D.wf hr
 have hwf2:(kl (E.down fm fn).2).wf=true:=down_wf D.wf hf
 have hO:Z.ownsRow w3.heap.size 9 1 (.slice a ps.length vc) ps.length (Nm.strs ps):=Nm.own_keep own fun k cur hc=>hBZ.block k (lt_of_heap hc)
 have hcap:=own_cap own
 have hlw4:V.heap.size≤w4.heap.size:=hB34.size
 have hlw3:V.heap.size≤w3.heap.size:=(unhide HB3).size
 have hlZ:w4.heap.size < Z.heap.size:=lt_of_heap gZ
 have HM:=hide (⟨k4,hBW,DZ,hwf1,hwf2,hO,hcap.1,hcap.2,hps,gZ,hR,hlw4⟩:_∧_∧_∧_∧_∧_∧_∧_∧_∧_∧_∧_)
 have hsV:V.heap.size=W.heap.size + 4:=hs
 obtain ⟨pz,hpz⟩:∃ pz,pz=w4.heap.size:=⟨_,rfl⟩
 obtain ⟨p0,p1,p2,-⟩:=cells3 gZ
 rw [← hpz] at p0 p1 p2
 have Hpz:=hide hpz
 have hWZ:W.heap.size + 5≤Z.heap.size:=by omega
 have HsV:=hide hsV
 obtain ⟨pl,hpl⟩:∃ pl,pl=ps.length:=⟨_,rfl⟩
 rw [← hpl] at p2
 have Hpl:=hide hpl
 have hpzl:pz < Z.heap.size:=by omega
 have hpzh:W.heap.size + 4≤pz:=by omega
 clear g1 g2 g3 g4 hB hs D hr hf hps hR gZ hBZ hB34 hB5 hBW DZ hwf1 hwf2 hO hcap own HG hB4 HB3 HRd k4 hlw4 hlw3 hsV hpz hpl
 go_upto_region 6 with fail
 rw [← unhide Hpz]
 clear hZ
 go_cut [19] from 54 to 69 (fun s19 wk=>∃ bw,s19=P0 bw∧Rn wk bw r R E.downed (E.down fm fn).1 (E.down fm fn).2 (.slice a pl vc) st 0 0 0 0 []∧Below Z.heap.size Z wk∧Z.heap.size≤bw)
 case first =>
  go_region_held3 (fun w'=>w'.cell? ⟨W.heap.size,0,none⟩=some (I E.rm)∧w'.cell? ⟨W.heap.size,1,none⟩=some (I E.rn)∧w'.cell? ⟨W.heap.size + 1,0,none⟩=some (I fm)∧w'.cell? ⟨W.heap.size + 1,1,none⟩=some (I fn)∧w'.cell? ⟨W.heap.size + 1 + 1,0,none⟩=some (I E.cu)∧w'.cell? ⟨W.heap.size + 1 + 1,1,none⟩=some (I E.cg)∧w'.cell? ⟨pz,1,none⟩=some (.bool st)∧w'.cell? ⟨pz,2,none⟩=some (.slice a pl vc)) (go_keep)
   (first
    | (go_at_call 103;refine (unhide HDn _ _ w6 (unhide HBN)).mono ?_;rintro e w7 ⟨rfl,HB7⟩;have hB7:=(unhide HBN).trans ((unhide HB7).mono (unhide HBN).size);have r0:=cell_be a0 hB7;have r1:=cell_be a1 hB7;have r2:=cell_be b0 hB7;have r3:=cell_be b1 hB7;have r4:=cell_be d0 hB7;have r5:=cell_be d1 hB7;have r6:=cell_be p1 hB7;have r7:=cell_be p2 hB7;have HBE:=hide hB7;clear hB7)
    | (go_at_call 103;refine (unhide HDn _ _ Z.drew (below_drew (Below.refl _ Z))).mono ?_;rintro e w6 ⟨rfl,HB6⟩;have hB6:=(below_drew (Below.refl Z.heap.size Z)).trans (unhide HB6);have q0:=cell_be a0 hB6;have q1:=cell_be a1 hB6;have q2:=cell_be b0 hB6;have q3:=cell_be b1 hB6;have q4:=cell_be d0 hB6;have q5:=cell_be d1 hB6;have q6:=cell_be p1 hB6;have q7:=cell_be p2 hB6;have HBN:=hide hB6;clear hB6))
  all_goals
   rename_i hHeld
   clear hHeld r0 r1 r2 r3 r4 r5 r6 r7 q0 q1 q2 q3 q4 q5 q6 q7
   obtain ⟨Q,hQ,hQ1,hQ2⟩:∃ Q,w7.alloc (.cells (rwC E.downed r R (E.down fm fn).1 (E.down fm fn).2 (.slice a pl vc) st 0 0 0 0 []) 176)=Q∧Rn Q w7.heap.size r R E.downed (E.down fm fn).1 (E.down fm fn).2 (.slice a pl vc) st 0 0 0 0 []∧Below Z.heap.size Z Q:=⟨_,rfl,heap_alloc_new w7 _,(unhide HBE).alloc (unhide HBE).size _⟩
   have HQ:=hide (⟨hQ1,hQ2,(unhide HBE).size⟩:_∧_∧_)
   have HQe:=hide hQ
   clear hQ1 hQ2 hQ
   go_wp2_with fail
   go_meet
   case rel =>
    refine ⟨w7.heap.size,rfl,?_⟩
    have:=unhide HQ
    rw [← unhide HQe] at this
    unfold rwC at this
    rw [show E.downed.follow=fw from unhide Hfw] at this
    exact this
 case rest =>
 obtain ⟨bw,rfl,rw0,hBk,hle⟩:=hcut
 obtain ⟨U,hU⟩:∃ U,U=wc:=⟨_,rfl⟩
 rw [← hU] at rw0 hBk ⊢
 clear hU wc a0 a1 b0 b1 d0 d1 HDn p1 p2
 obtain ⟨k4,hBW,DZ,hwf1,hwf2,hO,hcap1,hcap2,hps,gZ,hR,hlw4⟩:=unhide HM
 have hO2:Ro Z bw a ps:=own_ro2 hO hle
 have roU:Ro U bw a ps:=hO2.below hBk
 have p0U:=cell_be p0 hBk
 have nWb:W.heap.size + 1 + 1 + 1≠bw:=by omega
 have npb:pz≠bw:=by omega
 have hr0:Mt.any E.downed.es (Mt.isAt E.downed.rm E.downed.rn)=false:=no_down DZ E.rm E.rn
 obtain ⟨bm,hbm⟩:∃ bm,(E.downed.beg ⟨ro,st,ps⟩ (E.down fm fn).1 (E.down fm fn).2).1=bm:=⟨_,rfl⟩
 obtain ⟨bn,hbn⟩:∃ bn,(E.downed.beg ⟨ro,st,ps⟩ (E.down fm fn).1 (E.down fm fn).2).2=bn:=⟨_,rfl⟩
 have hbeg:bm=(if ro=true then E.downed.rm else (E.down fm fn).1)∧bn=(if ro=true then E.downed.rn else (E.down fm fn).2):=by
  rw [← hbm,← hbn]
  unfold En.beg
  constructor <;> (split <;> rfl)
 have hwb:(kl bn).wf=true∧Mt.any E.downed.es (Mt.isAt bm bn)=false:=by
  rw [hbeg.1,hbeg.2]
  split
  ·exact ⟨hwf1,hr0⟩
  ·exact ⟨hwf2,no_down DZ fm fn⟩
 have hon:E.downed.on 0 st ps bm bn [] bm bn 0=Z0:=by
  have:=run_on (E:=E.downed) (fol:=0) (by omega) ⟨ro,st,ps⟩ (E.down fm fn).1 (E.down fm fn).2 0
  rw [hbm,hbn] at this
  rw [← hR]
  exact this.symm
 obtain ⟨M1,M2,⟨m1,m2⟩,⟨o0,o1⟩,⟨f0,f1⟩,r2,t2⟩:=rw0.moved (W0:=Z) hBk hle E.downed.rm E.downed.rn
 obtain ⟨-,-,s2,s3,-⟩:=rw0.c1
 have HUU:=hide (⟨rw0,hBk⟩:_∧_)
 have HM2:=hide (⟨r2,t2⟩:_∧_)
 have Hbg:=hide hbeg
 have HK:=hide (⟨DZ.downed,hwf1,hr0,k4,hBW,hcap1,hcap2,hps,hwb,hon,roU⟩:_∧_∧_∧_∧_∧_∧_∧_∧_∧_∧_)
 clear HM hBW DZ hwf1 hwf2 hO hO2 roU k4 hcap1 hcap2 hps gZ hR hlw4 hr0 hbm hbn hbeg hwb hon r2 t2 rw0 hBk p0
 go_upto_if 71 with fail
 go_cut [] from 72 to 78 (fun wc=>Hid (Rn wc bw r R E.downed bm bn (.slice a pl vc) st 0 0 0 0 []∧Tz bw Z U wc))
 case first =>
  have hb:=unhide Hbg
  cases ro with
  | false =>
   obtain ⟨rfl,rfl⟩:bm=(E.down fm fn).1∧bn=(E.down fm fn).2:=by simpa using hb
   clear hb
   go_wp2_with fail
   go_meet
   case rel=>exact hide ⟨(unhide HUU).1,fun _ _=>rfl,rfl,(unhide HUU).2⟩
  | true =>
   obtain ⟨rfl,rfl⟩:bm=E.downed.rm∧bn=E.downed.rn:=by simpa using hb
   clear hb
   go_wp2_with fail
   go_meet
   case rel=>exact HM2
 case rest =>
 obtain ⟨U1,hU1⟩:∃ U1,U1=wc:=⟨_,rfl⟩
 rw [← hU1] at hcut ⊢
 clear hU1 wc m1 m2 o0 o1 f0 f1 s2 s3 HM2 Hbg p0U
 obtain ⟨r3,t3⟩:=unhide hcut
 obtain ⟨N1,N2,⟨m1,m2⟩,⟨o0,o1⟩,⟨f0,f1⟩,r4,t4⟩:=r3.dired t3.be hle bm bn
 obtain ⟨-,-,-,-,-,-,s6,s7,-⟩:=r3.c1
 have hP:Pt E.downed Z bw r R Z0 N2 a vc ps st 0 0 bm bn bm bn []:=by
  obtain ⟨DD,hwf1,hr0,k4,hBW,hcap1,hcap2,hps,hwb,hon,roU⟩:=unhide HK
  refine ⟨by rw [← unhide Hpl];exact r4,t4.be,(t3.trans t4).ro roU,hcap1,hcap2,hps,by omega,hwb.1,hwb.2,?_,hon⟩
  have:=wt_len ps
  omega
 have HP:=hide hP
 clear hcut r3 t3 r4 t4 hP HUU
 go_wp2_with fail
 clear m1 m2 o0 o1 f0 f1 s6 s7
 go_loopw [] (fun wr=>∃ a cap ps slash fol s am an dm dn last,Hid (Pt E.downed Z bw r R Z0 wr a cap ps slash fol s am an dm dn last)) (fun wr=>mAt wr bw)
 case atStart=>exact ⟨a,vc,ps,st,0,0,bm,bn,bm,bn,[],HP⟩
 case round =>
  clear HP Hpl
  obtain ⟨a,cap,ps,slash,fol,s,am,an,dm,dn,last,HP⟩:=hrel
  have hP:=unhide HP
  cases ps with
  | nil =>
   obtain ⟨-,-,-,-,-,-,w6,w7,w8,w9,-⟩:=hP.rn.c1
   have w8':wr.cell? ⟨bw,8,none⟩=some (.slice a 0 cap):=w8
   obtain ⟨av,mo,uu,gg,ll,zz,hst,-⟩:=stat_shape E.downed.T an
   obtain ⟨f,hf⟩:∃ f,(E.downed.T.nd an).isSome=f:=⟨_,rfl⟩
   obtain ⟨K,hK⟩:∃ K,K=E.downed.T.kindOf an:=⟨_,rfl⟩
   rw [← hK] at hst
   have HS:=hide (stat_R (unhide HK).1 hP.wf hst hf wr hP.be)
   have HKK:=hide hK
   clear w8 hst hf hP hK
   go_wp2_with fail
   refine (unhide HS).mono ?_
   rintro e w5 ⟨rfl,HB5⟩
   have hP:=unhide HP
   obtain ⟨Q,hQ,gQ,hBQ⟩:∃ Q,w5.alloc (.cells #[I av,I K,I mo,I uu,I gg,I ll,I zz] 33)=Q∧Q.heap[w5.heap.size]?=some (.cells #[I av,I K,I mo,I uu,I gg,I ll,I zz] 33)∧Below wr.heap.size wr Q:=⟨_,rfl,heap_alloc_new _ _,(unhide HB5).alloc (unhide HB5).size _⟩
   obtain ⟨-,y1,-⟩:=cells7 gQ
   have rQ:=hP.rn.below hBQ
   have beQ:Below Z.heap.size Z Q:=hP.be.trans (hBQ.mono hP.be.size)
   obtain ⟨-,-,-,-,-,-,q6,q7,-,q9,-⟩:=rQ.c1
   have HQQ:=hide (⟨rQ,beQ⟩:_∧_)
   obtain ⟨bad,hbad⟩:∃ bad,bad=(slash && !decide (K=1)):=⟨_,rfl⟩
   have hon:=hP.on
   rw [on_nil] at hon
   obtain ⟨yy,hyy⟩:∃ yy,yy=w5.heap.size:=⟨_,rfl⟩
   rw [← hyy] at y1
   have Hyy:=hide hyy
   have Hon:=hide hon
   have Hbad:=hide hbad
   clear hP gQ hBQ rQ beQ HS HB5 w6 w7 w8' w9 hyy hon hbad
   go_upto_region 18 with fail
   rw [← unhide Hyy]
   clear hQ
   go_cut [141] from 133 to 140 (fun s141 wc=>s141=.bool bad∧wc=Q)
   case first =>
    have hbad:=unhide Hbad
    cases slash with
    | false =>
     obtain rfl:bad=false:=by rw [hbad];rfl
     clear hbad
     go_wp2_with fail
     go_meet
     case rel=>exact ⟨rfl,rfl⟩
    | true =>
     by_cases hk:K=1
     ·obtain rfl:bad=false:=by rw [hbad];simp [hk]
      subst hk
      clear hbad
      go_wp2_with fail
      go_meet
      case rel=>exact ⟨rfl,rfl⟩
     ·obtain rfl:bad=true:=by rw [hbad];simp [hk]
      have hk1:(K == 1)=false:=by simpa using hk
      have hk2:(K != 1)=true:=by simpa using hk
      clear hbad
      go_wp2_with fail
      go_meet
      case rel=>first | exact ⟨rfl,rfl⟩ | exact ⟨by rw [hk2],rfl⟩
   case rest =>
   obtain ⟨rfl,e9⟩:=hcut
   rw [e9]
   clear e9 wc y1
   obtain ⟨DD,hwf1,hr0,k4,hBW,hcap1,hcap2,hps,hwb,hon0,roU⟩:=unhide HK
   obtain ⟨rQ,beQ⟩:=unhide HQQ
   have k4Q:=(beQ.block _ (lt_of_heap k4)).trans k4
   have hhl:W.heap.size + 1 + 1 + 1 < Z.heap.size:=lt_of_heap k4
   have hBQ:Below W.heap.size W Q:=hBW.trans (beQ.mono hBW.size)
   clear DD hwf1 hr0 k4 hcap1 hcap2 hps hwb hon0 roU
   cases bad with
   | true =>
    obtain ⟨-,-,q12,-⟩:=rQ.c2
    obtain ⟨r0,r1,r2,r3,r4,r5,r6,rf⟩:=cells7 k4Q
    obtain ⟨Y,hY,hYb,hYB⟩:=set7d k4Q (I 0) (I 0) (.string ⟨#[]⟩) (I 0) (I 0) (.bool false) (.bool false)
    obtain ⟨z0,z1,z2,z3,z4,z5,z6,-⟩:=cells7 hYb
    have HY:=hide hY
    have HYB:=hide (hYB _ _ hBQ (by omega))
    clear rQ beQ k4Q hBQ hBW hY hYb hYB q6 q7 q9
    go_wp2_with fail
    go_region_held3 (fun w'=>w'.cell? ⟨bw,12,none⟩=some (I (s:Int))) (go_keep) (fail)
    rw [unhide HY]
    go_wp2_with fail
    first | rw [Exit.noGoto_ret] | skip
    refine bodyPost_ret (v:=.tuple #[.agg #[I 0,I 0,.string (bs []),I 0,I 0,.bool false,.bool false],I 37,I (s:Int)]) (by simp [results,Tryz.results29,go_sem,z0,z1,z2,z3,z4,z5,z6]) rfl ?_
    refine ⟨?_,unhide HYB⟩
    have hb:=unhide Hbad
    have hcond:slash=true∧E.downed.T.kindOf an≠1:=by
     have h1:slash=true∧¬ K=1:=by simpa using hb.symm
     exact ⟨h1.1,fun e=>h1.2 ((unhide HKK).trans e)⟩
    rw [← unhide Hon]
    simp only [En.endF,En.endE]
    rw [if_pos hcond,if_pos hcond]
    rfl
   | false =>
    obtain ⟨X1,X2,X3,X4,⟨x1,x2,x3,x4⟩,⟨i1,i2,i3,i4,i9⟩,⟨j1,j2,j3,j4⟩,rz,tz⟩:=rQ.z.ends beQ hle
    obtain ⟨l6,l7,-,-,lf⟩:=rz.c1
    obtain ⟨-,-,l15,-⟩:=rz.c2
    obtain ⟨E1,E2,⟨e1,e2⟩,⟨ic0,ic1⟩,⟨jf0,jf1⟩,rz2,tz2⟩:=rz.dired tz.be hle am an
    obtain ⟨gm,hgm⟩:∃ gm,gm=(if last=[] then am else dm):=⟨_,rfl⟩
    obtain ⟨gn,hgn⟩:∃ gn,gn=(if last=[] then an else dn):=⟨_,rfl⟩
    have HA:=hide (⟨rz,tz⟩:_∧_)
    have HB:=hide (⟨rz2,tz.trans tz2⟩:_∧_)
    have Hg:=hide (⟨hgm,hgn⟩:_∧_)
    have HQk:=hide (⟨k4Q,hBQ⟩:_∧_)
    clear rQ beQ k4Q hBQ hBW rz tz rz2 tz2 lf hgm hgn
    go_upto_if 172 with fail
    go_cut [] from 172 to 180 (fun wc=>Hid (Rz wc bw r R E.downed am an (.slice a 0 cap) slash fol s gm gn last am an true slash∧Tz bw Z Q wc))
    case first =>
     obtain ⟨hgm,hgn⟩:=unhide Hg
     by_cases hl:last=[]
     ·rw [if_pos hl] at hgm hgn
      subst hgm
      subst hgn
      subst hl
      go_wp2_with fail
      go_meet
      case rel=>exact HB
     ·rw [if_neg hl] at hgm hgn
      subst hgm
      subst hgn
      have hl2:(last == [])=false:=by simpa using hl
      have hl3:last.isEmpty=false:=by simpa using hl
      rw [hl3]
      go_wp2_with fail
      go_meet
      case rel=>exact HA
    case rest =>
    obtain ⟨G,hG⟩:∃ G,G=wc:=⟨_,rfl⟩
    rw [← hG] at hcut ⊢
    clear hG wc x1 x2 x3 x4 i1 i2 i3 i4 i9 j1 j2 j3 j4 l6 l7 l15 e1 e2 ic0 ic1 jf0 jf1 HA HB q6 q7 q9
    obtain ⟨rz,tz⟩:=unhide hcut
    obtain ⟨k4Q,hBQ⟩:=unhide HQk
    have k4G:=(tz.kp _ nWb).trans k4Q
    obtain ⟨-,-,-,q12,-⟩:=rz.c1
    obtain ⟨q13,q14,q15,q16,q17,q18,q19⟩:=rz.c2
    have hBG:Below W.heap.size W G:=by
     obtain ⟨DD,hwf1,hr0,k4,hBW,-⟩:=unhide HK
     exact hBW.trans (tz.be.mono hBW.size)
    obtain ⟨r0,r1,r2,r3,r4,r5,r6,rf⟩:=cells7 k4G
    obtain ⟨Y,hY,hYb,hYB⟩:=set7d k4G (I gm) (I gn) (.string (bs last)) (I am) (I an) (.bool true) (.bool slash)
    obtain ⟨z0,z1,z2,z3,z4,z5,z6,-⟩:=cells7 hYb
    have HY:=hide hY
    have HYB:=hide (hYB _ _ hBG (by omega))
    have nbW:=Ne.symm nWb
    clear hcut rz tz k4Q hBQ k4G hBG hY hYb hYB HQk
    go_wp2_with fail
    go_region_held3 (fun w'=>w'.cell? ⟨bw,12,none⟩=some (I (s:Int))∧w'.cell? ⟨bw,13,none⟩=some (I gm)∧w'.cell? ⟨bw,14,none⟩=some (I gn)∧w'.cell? ⟨bw,15,none⟩=some (.string (bs last))∧w'.cell? ⟨bw,16,none⟩=some (I am)∧w'.cell? ⟨bw,17,none⟩=some (I an)∧w'.cell? ⟨bw,18,none⟩=some (.bool true)∧w'.cell? ⟨bw,19,none⟩=some (.bool slash)) (go_keep) (fail)
    rw [unhide HY]
    go_wp2_with fail
    first | rw [Exit.noGoto_ret] | skip
    refine bodyPost_ret (v:=.tuple #[.agg #[I gm,I gn,.string (bs last),I am,I an,.bool true,.bool slash],I 0,I (s:Int)]) (by simp [results,Tryz.results29,go_sem,z0,z1,z2,z3,z4,z5,z6]) rfl ?_
    refine ⟨?_,unhide HYB⟩
    have hb:=unhide Hbad
    have hcond:¬ (slash=true∧E.downed.T.kindOf an≠1):=by
     rintro ⟨h1,h2⟩
     have h3:¬ K=1:=fun e=>h2 ((unhide HKK).symm.trans e)
     rw [h1] at hb
     simp [h3] at hb
    obtain ⟨hgm,hgn⟩:=unhide Hg
    rw [← unhide Hon]
    simp only [En.endF,En.endE]
    rw [if_neg hcond,if_neg hcond,hgm,hgn]
    by_cases hl:last=[]
    ·rw [if_pos hl,if_pos hl,if_pos hl];rfl
    ·rw [if_neg hl,if_neg hl,if_neg hl];rfl
  | cons p rest =>
   obtain ⟨DD,hwf1,hr0,k4,hBW,-⟩:=unhide HK
   have HPa:=hide (part_any DD hle hwf1 hr0 hP)
   have w8:wr.cell? ⟨bw,8,none⟩=some (.slice a (rest.length + 1) cap):=hP.rn.c1.2.2.2.2.2.2.2.2.1
   have hmA:=hP.rn.mAt
   have hfo:=hP.fo
   have HmA:=hide (⟨hmA,hfo⟩:_∧_)
   obtain ⟨n,hn⟩:∃ n,n=rest.length + 1:=⟨_,rfl⟩
   rw [← hn] at w8 HPa
   have hn0:(0:Int) < (n:Int):=by omega
   have hn1:0 < n:=by omega
   have Hn:=hide hn
   clear DD hwf1 hr0 k4 hBW hP hmA hfo hn
   go_wp2_with fail
   refine (unhide HPa).mono ?_
   rintro e w5 ⟨x,o,rfl,hPd⟩
   clear HPa w8
   obtain ⟨DD,hwf1,hr0,k4,hBW,-⟩:=unhide HK
   have hhl:W.heap.size + 1 + 1 + 1 < Z.heap.size:=lt_of_heap k4
   have nbW:=Ne.symm nWb
   obtain ⟨S1,hS1⟩:∃ S1,S1=s + 1:=⟨_,rfl⟩
   unfold Pd at hPd
   rw [← hS1] at hPd
   have HS1:=hide hS1
   clear DD hwf1 hr0 hS1
   rcases hPd with ⟨hx0,rfl,hf1,hf2,hf3,be5,am',an',lf',sl',fol',dm',dn',last',r5⟩ | ⟨rfl,rfl,hf2,hf3,be5,am',an',lf',sl',fol',dm',dn',last',r5,hf1⟩ | ⟨rfl,rfl,a',cap',ps',sl',fol',am',an',dm',dn',last',hP',hm⟩
   ·have k45:=(be5.block _ (lt_of_heap k4)).trans k4
    have hB5:Below W.heap.size W w5:=hBW.trans (be5.mono hBW.size)
    obtain ⟨-,-,q12,-⟩:=r5.c2
    obtain ⟨r0,r1,r2,r3,r4,r5',r6,rf⟩:=cells7 k45
    obtain ⟨Y,hY,hYb,hYB⟩:=set7d k45 (I 0) (I 0) (.string ⟨#[]⟩) (I 0) (I 0) (.bool false) (.bool false)
    obtain ⟨z0,z1,z2,z3,z4,z5,z6,-⟩:=cells7 hYb
    have HY:=hide hY
    have HYB:=hide (hYB _ _ hB5 (by omega))
    have hx1:(x != 0)=true:=by simpa using hx0
    have HF:=hide (⟨hf1,hf2,hf3⟩:_∧_∧_)
    clear k4 hBW k45 hB5 be5 r5 hY hYb hYB hf1 hf2 hf3
    go_wp2_with fail
    go_region_held3 (fun w'=>w'.cell? ⟨bw,12,none⟩=some (I (S1:Int))) (go_keep) (fail)
    rw [unhide HY]
    go_wp2_with fail
    first | rw [Exit.noGoto_ret] | skip
    refine bodyPost_ret (v:=.tuple #[.agg #[I 0,I 0,.string (bs []),I 0,I 0,.bool false,.bool false],I x,I (S1:Int)]) (by simp [results,Tryz.results29,go_sem,z0,z1,z2,z3,z4,z5,z6]) rfl ?_
    refine ⟨?_,unhide HYB⟩
    obtain ⟨hf1,hf2,hf3⟩:=unhide HF
    rw [hf1,hf2,hf3]
    rfl
   ·obtain ⟨-,-,-,-,-,-,-,-,-,q9,qf⟩:=r5.c1
    have q19:w5.cell? ⟨bw,19,none⟩=some (.bool false):=r5.c2.2.2.2.2.2.2.2.2.2
    have qf19:=qf 19
    obtain ⟨X,hX,rz,tz⟩:=r5.z.over be5 hle sl'
    have k45:=(tz.kp _ nWb).trans ((be5.block _ (lt_of_heap k4)).trans k4)
    have hB5:Below W.heap.size W X:=hBW.trans (tz.be.mono hBW.size)
    obtain ⟨-,-,-,q12,-⟩:=rz.c1
    obtain ⟨i13,i14,i15,i16,i17,i18,i19⟩:=rz.c2
    obtain ⟨r0,r1,r2,r3,r4,r5',r6,rf⟩:=cells7 k45
    obtain ⟨Y,hY,hYb,hYB⟩:=set7d k45 (I dm') (I dn') (.string (bs last')) (I 0) (I 0) (.bool false) (.bool sl')
    obtain ⟨z0,z1,z2,z3,z4,z5,z6,-⟩:=cells7 hYb
    have HY:=hide hY
    have HYB:=hide (hYB _ _ hB5 (by omega))
    have HF:=hide (⟨hf1,hf2,hf3⟩:_∧_∧_)
    clear k4 hBW k45 hB5 be5 r5 rz tz hY hYb hYB hf1 hf2 hf3 qf
    go_wp2_with fail
    go_region_held3 (fun w'=>w'.cell? ⟨bw,12,none⟩=some (I (S1:Int))∧w'.cell? ⟨bw,13,none⟩=some (I dm')∧w'.cell? ⟨bw,14,none⟩=some (I dn')∧w'.cell? ⟨bw,15,none⟩=some (.string (bs last'))∧w'.cell? ⟨bw,16,none⟩=some (I 0)∧w'.cell? ⟨bw,17,none⟩=some (I 0)∧w'.cell? ⟨bw,18,none⟩=some (.bool false)∧w'.cell? ⟨bw,19,none⟩=some (.bool sl')) (go_keep) (fail)
    rw [unhide HY]
    go_wp2_with fail
    first | rw [Exit.noGoto_ret] | skip
    refine bodyPost_ret (v:=.tuple #[.agg #[I dm',I dn',.string (bs last'),I 0,I 0,.bool false,.bool sl'],I 0,I (S1:Int)]) (by simp [results,Tryz.results29,go_sem,z0,z1,z2,z3,z4,z5,z6]) rfl ?_
    refine ⟨?_,unhide HYB⟩
    obtain ⟨hf1,hf2,hf3⟩:=unhide HF
    rw [hf1,hf2,hf3]
    rfl
   ·have HPP:=hide (⟨hP',hm⟩:_∧_)
    clear hP' hm k4 hBW
    go_wp2_with fail
    obtain ⟨hP',hm⟩:=unhide HPP
    refine ⟨⟨a',cap',ps',sl',fol',S1,am',an',dm',dn',last',hide hP'⟩,?_⟩
    obtain ⟨hmA,hfo⟩:=unhide HmA
    have hn:=unhide Hn
    rw [hmA,hP'.rn.mAt]
    have h1:=wt_len ps'
    have h2:=hP'.wt
    have h3:=hP'.fo
    simp only [List.length_cons]
    rcases hm with hm | ⟨hm1,hm2⟩
    ·have:(40 - fol') + 1≤40 - fol:=by omega
     omega
    ·subst hm1;omega
theorem rwalk_any (D:Rd lo R W r E rs) (fm fn:Int) (hr:(kl E.rn).wf=true) (hf:(kl fn).wf=true) (path:Bytes) (Z:Re) (hZ:E.walk fm fn path=Z) :
  Calls Tryz.prog 29 #[P0 r,P0 (R + 1),.agg #[I E.rm,I E.rn],.agg #[I fm,I fn],.agg #[I E.cu,I E.cg],.string (bs path),.bool E.follow] W fun e w'=>e=.returned (.tuple #[Z.f.v,I Z.why,I (Z.steps:Int)])∧Below W.heap.size W w':=by
 cases hp:(E.place E.rm E.rn && E.place fm fn) with
 | false =>
  rw [En.walk,if_neg (by simp [hp])] at hZ
  subst hZ
  exact rwalk_no D fm fn hr hf path hp
 | true =>
  rw [En.walk,if_pos hp] at hZ
  by_cases hx:Nm.err path=0
  ·rw [if_pos hx] at hZ
   exact rwalk_yes D fm fn hr hf path hp hx Z hZ
  ·rw [if_neg hx] at hZ
   subst hZ
   exact rwalk_bad D fm fn hr hf path hp _ rfl hx
end
end Go.Proofs.YtlngeaacjbdmhaaGreat.Wl
namespace Go.Proofs.YtlngeaacjbdmhaaGreat.Bt
open Go.RowKit
def lone (ty:TypeId):Prop:=own ty∧ty≠46∧ty≠57∧ty≠50
structure Bw (t m r R l0 l1 yb yc yf:Nat) (cu cg fm fn:Int) (B:Nat) (K:Int) (w W:World) (T:Tr) (M:Mt.T) (rs:List Mt.Rm) (L:List (Nat × Array Value × TypeId)):Prop where
 s:Bx t m r R l0 l1 B K w W T T M M rs
 hb:W.heap[yb]?=some (.cells #[P0 t,P0 m,P0 r,P0 (R + 1)] 46)
 hc:W.heap[yc]?=some (.cells #[I cu,I cg] 57)
 hf:W.heap[yf]?=some (.cells #[I fm,I fn] 50)
 yl:w.heap.size≤yf
 l:∀ c ∈ L,W.heap[c.1]?=some (.cells c.2.1 c.2.2)∧lone c.2.2∧w.heap.size≤c.1
 nd:(L.map (·.1)).Nodup
section
variable {t m r R l0 l1 yb yc yf B:Nat} {cu cg fm fn K:Int} {w W W':World} {T T':Tr} {M M':Mt.T} {rs rs':List Mt.Rm} {L:List (Nat × Array Value × TypeId)}
theorem Bx.rebase {V:World} {T2:Tr} {M2:Mt.T} (s:Bx t m r R l0 l1 B K V W T T2 M M2 rs) (h:Below w.heap.size w V):Bx t m r R l0 l1 B K w W T T2 M M2 rs:=⟨s.q,s.d,s.f,s.l,s.a,s.b,s.rt,s.mf,h.trans (s.be.mono h.size),by have:=s.le;have:=h.size;omega⟩
theorem Bw.below (h:Bw t m r R l0 l1 yb yc yf cu cg fm fn B K w W T M rs L) (g:Below W.heap.size W W'):Bw t m r R l0 l1 yb yc yf cu cg fm fn B K w W' T M rs L:=⟨h.s.below g,(g.block _ (lt_of_heap h.hb)).trans h.hb,(g.block _ (lt_of_heap h.hc)).trans h.hc,(g.block _ (lt_of_heap h.hf)).trans h.hf,h.yl,fun c hc=>⟨(g.block _ (lt_of_heap (h.l c hc).1)).trans (h.l c hc).1,(h.l c hc).2⟩,h.nd⟩
theorem Bw.drew (h:Bw t m r R l0 l1 yb yc yf cu cg fm fn B K w W T M rs L):Bw t m r R l0 l1 yb yc yf cu cg fm fn B K w W.drew T M rs L:=h.below ⟨rfl,rfl,rfl,Nat.le_refl _,fun _ _=>rfl⟩
theorem Bw.step {B':Nat} {K':Int} (h:Bw t m r R l0 l1 yb yc yf cu cg fm fn B K w W T M rs L) (g:Bx t m r R l0 l1 B' K' w W' T' T' M' M' rs') (k:Kp W W'):Bw t m r R l0 l1 yb yc yf cu cg fm fn B' K' w W' T' M' rs' L:=⟨g,k _ _ _ _ h.hb own_both,k _ _ _ _ h.hc own_cred,k _ _ _ _ h.hf own_place,h.yl,fun c hc=>⟨k _ _ _ _ (h.l c hc).1 (h.l c hc).2.1.1,(h.l c hc).2⟩,h.nd⟩
theorem Bw.mono {B':Nat} {K':Int} (h:Bw t m r R l0 l1 yb yc yf cu cg fm fn B K w W T M rs L) (hb:B≤B') (hk:K≤K'):Bw t m r R l0 l1 yb yc yf cu cg fm fn B' K' w W T M rs L:=⟨h.s.mono hb hk,h.hb,h.hc,h.hf,h.yl,h.l,h.nd⟩
theorem Bw.cells (h:Bw t m r R l0 l1 yb yc yf cu cg fm fn B K w W T M rs L):(W.cell? ⟨yb,0,none⟩=some (P0 t)∧W.cell? ⟨yb,1,none⟩=some (P0 m)∧W.cell? ⟨yb,2,none⟩=some (P0 r)∧W.cell? ⟨yb,3,none⟩=some (P0 (R + 1)))∧(W.cell? ⟨yc,0,none⟩=some (I cu)∧W.cell? ⟨yc,1,none⟩=some (I cg))∧(W.cell? ⟨yf,0,none⟩=some (I fm)∧W.cell? ⟨yf,1,none⟩=some (I fn)):=by
 refine ⟨⟨?_,?_,?_,?_⟩,⟨?_,?_⟩,?_,?_⟩
 ·rw [cell_of h.hb];rfl
 ·rw [cell_of h.hb];rfl
 ·rw [cell_of h.hb];rfl
 ·rw [cell_of h.hb];rfl
 ·rw [cell_of h.hc];rfl
 ·rw [cell_of h.hc];rfl
 ·rw [cell_of h.hf];rfl
 ·rw [cell_of h.hf];rfl
theorem Bw.more {cs:Array Value} {ty:TypeId} (h:Bw t m r R l0 l1 yb yc yf cu cg fm fn B K w W T M rs L) (ht:lone ty):Bw t m r R l0 l1 yb yc yf cu cg fm fn B K w (W.alloc (.cells cs ty)) T M rs ((W.heap.size,cs,ty) :: L):=by
 have h1:=h.below (W':=W.alloc (.cells cs ty)) ((Below.refl _ W).alloc (Nat.le_refl _) _)
 refine ⟨h1.s,h1.hb,h1.hc,h1.hf,h1.yl,fun c hc=>?_,?_⟩
 ·rcases List.mem_cons.1 hc with rfl | hc
  ·exact ⟨heap_alloc_new W _,ht,h.s.be.size⟩
  ·exact h1.l c hc
 ·rw [List.map_cons,List.nodup_cons]
  refine ⟨fun hm=>?_,h.nd⟩
  obtain ⟨c,hc,e⟩:=List.mem_map.1 hm
  have:=lt_of_heap (h.l c hc).1
  simp only at e
  omega
theorem Bw.turn {q:Nat} {cs cs':Array Value} {ty:TypeId} (h:Bw t m r R l0 l1 yb yc yf cu cg fm fn B K w W T M rs ((q,cs,ty) :: L)) (F:Fr [q] W W') (hq:W'.heap[q]?=some (.cells cs' ty)):Bw t m r R l0 l1 yb yc yf cu cg fm fn B K w W' T M rs ((q,cs',ty) :: L):=by
 obtain ⟨h1,h2,h3⟩:=h.l _ (List.mem_cons_self ..)
 simp only at h1 h2 h3
 have hne:∀ (b:Nat) (c0:Array Value) (t0:TypeId),W.heap[b]?=some (.cells c0 t0)→t0≠ty→W'.heap[b]?=some (.cells c0 t0):=fun b c0 t0 e ht=>(F.blk b (lt_of_heap e) (by
  simp
  rintro rfl
  rw [h1] at e
  cases e
  exact ht rfl)).trans e
 have hnd:=h.nd
 rw [List.map_cons,List.nodup_cons] at hnd
 refine ⟨h.s.turn h1 h2.1 F h3,hne _ _ _ h.hb (Ne.symm h2.2.1),hne _ _ _ h.hc (Ne.symm h2.2.2.1),hne _ _ _ h.hf (Ne.symm h2.2.2.2),h.yl,fun c hc=>?_,?_⟩
 ·rcases List.mem_cons.1 hc with rfl | hc
  ·exact ⟨hq,h2,h3⟩
  ·obtain ⟨g1,g2,g3⟩:=h.l c (List.mem_cons_of_mem _ hc)
   refine ⟨(F.blk c.1 (lt_of_heap g1) ?_).trans g1,g2,g3⟩
   simp
   rintro e
   exact hnd.1 (List.mem_map.2 ⟨c,hc,e⟩)
 ·rw [List.map_cons,List.nodup_cons]
  exact hnd
theorem Bw.store7 {q:Nat} {z0 z1 z2 z3 z4 z5 z6:Value} {ty:TypeId} (h:Bw t m r R l0 l1 yb yc yf cu cg fm fn B K w W T M rs ((q,#[z0,z1,z2,z3,z4,z5,z6],ty) :: L)) (v0 v1 v2 v3 v4 v5 v6:Value) :
  ∃ X1 X2 X3 X4 X5 X6 X7:World,(W.setCell ⟨q,0,none⟩ v0=X1∧X1.setCell ⟨q,1,none⟩ v1=X2∧X2.setCell ⟨q,2,none⟩ v2=X3∧X3.setCell ⟨q,3,none⟩ v3=X4∧X4.setCell ⟨q,4,none⟩ v4=X5∧X5.setCell ⟨q,5,none⟩ v5=X6∧X6.setCell ⟨q,6,none⟩ v6=X7)∧(W.cell? ⟨q,0,none⟩=some z0∧X1.cell? ⟨q,1,none⟩=some z1∧X2.cell? ⟨q,2,none⟩=some z2∧X3.cell? ⟨q,3,none⟩=some z3∧X4.cell? ⟨q,4,none⟩=some z4∧X5.cell? ⟨q,5,none⟩=some z5∧X6.cell? ⟨q,6,none⟩=some z6)∧(W.frozen? ⟨q,0,none⟩=false∧X1.frozen? ⟨q,1,none⟩=false∧X2.frozen? ⟨q,2,none⟩=false∧X3.frozen? ⟨q,3,none⟩=false∧X4.frozen? ⟨q,4,none⟩=false∧X5.frozen? ⟨q,5,none⟩=false∧X6.frozen? ⟨q,6,none⟩=false)∧Hid (Bw t m r R l0 l1 yb yc yf cu cg fm fn B K w X7 T M rs ((q,#[v0,v1,v2,v3,v4,v5,v6],ty) :: L)):=by
 have hq:=(h.l _ (List.mem_cons_self ..)).1
 simp only at hq
 obtain ⟨X1,e1,g1⟩:∃ X,W.setCell ⟨q,0,none⟩ v0=X∧X.heap[q]?=some (.cells #[v0,z1,z2,z3,z4,z5,z6] ty):=⟨_,rfl,by rw [heap_set hq];rfl⟩
 obtain ⟨X2,e2,g2⟩:∃ X,X1.setCell ⟨q,1,none⟩ v1=X∧X.heap[q]?=some (.cells #[v0,v1,z2,z3,z4,z5,z6] ty):=⟨_,rfl,by rw [heap_set g1];rfl⟩
 obtain ⟨X3,e3,g3⟩:∃ X,X2.setCell ⟨q,2,none⟩ v2=X∧X.heap[q]?=some (.cells #[v0,v1,v2,z3,z4,z5,z6] ty):=⟨_,rfl,by rw [heap_set g2];rfl⟩
 obtain ⟨X4,e4,g4⟩:∃ X,X3.setCell ⟨q,3,none⟩ v3=X∧X.heap[q]?=some (.cells #[v0,v1,v2,v3,z4,z5,z6] ty):=⟨_,rfl,by rw [heap_set g3];rfl⟩
 obtain ⟨X5,e5,g5⟩:∃ X,X4.setCell ⟨q,4,none⟩ v4=X∧X.heap[q]?=some (.cells #[v0,v1,v2,v3,v4,z5,z6] ty):=⟨_,rfl,by rw [heap_set g4];rfl⟩
 obtain ⟨X6,e6,g6⟩:∃ X,X5.setCell ⟨q,5,none⟩ v5=X∧X.heap[q]?=some (.cells #[v0,v1,v2,v3,v4,v5,z6] ty):=⟨_,rfl,by rw [heap_set g5];rfl⟩
 obtain ⟨X7,e7,g7⟩:∃ X,X6.setCell ⟨q,6,none⟩ v6=X∧X.heap[q]?=some (.cells #[v0,v1,v2,v3,v4,v5,v6] ty):=⟨_,rfl,by rw [heap_set g6];rfl⟩
 have F:Fr [q] W X7:=by
  rw [← e7,← e6,← e5,← e4,← e3,← e2,← e1]
  exact (((((((Fr.refl _ W).set (a:=⟨q,0,none⟩) (by simp) _).set (a:=⟨q,1,none⟩) (by simp) _).set (a:=⟨q,2,none⟩) (by simp) _).set (a:=⟨q,3,none⟩) (by simp) _).set (a:=⟨q,4,none⟩) (by simp) _).set (a:=⟨q,5,none⟩) (by simp) _).set (a:=⟨q,6,none⟩) (by simp) _
 exact ⟨X1,X2,X3,X4,X5,X6,X7,⟨e1,e2,e3,e4,e5,e6,e7⟩,⟨by rw [cell_of hq];rfl,by rw [cell_of g1];rfl,by rw [cell_of g2];rfl,by rw [cell_of g3];rfl,by rw [cell_of g4];rfl,by rw [cell_of g5];rfl,by rw [cell_of g6];rfl⟩,⟨frozen_of hq 0,frozen_of g1 1,frozen_of g2 2,frozen_of g3 3,frozen_of g4 4,frozen_of g5 5,frozen_of g6 6⟩,hide (h.turn F g7)⟩
theorem Bw.place (h:Bw t m r R l0 l1 yb yc yf cu cg fm fn B K w W T M rs []) (a b:Int):Bw t m r R l0 l1 yb yc yf cu cg a b B K w ((W.setCell ⟨yf,0,none⟩ (I a)).setCell ⟨yf,1,none⟩ (I b)) T M rs []:=by
 have F:Fr [yf] W ((W.setCell ⟨yf,0,none⟩ (I a)).setCell ⟨yf,1,none⟩ (I b)):=((Fr.refl _ W).set (a:=⟨yf,0,none⟩) (by simp) _).set (a:=⟨yf,1,none⟩) (by simp) _
 have hne:∀ (b0:Nat) (c0:Array Value) (t0:TypeId),W.heap[b0]?=some (.cells c0 t0)→t0≠50→((W.setCell ⟨yf,0,none⟩ (I a)).setCell ⟨yf,1,none⟩ (I b)).heap[b0]?=some (.cells c0 t0):=fun b0 c0 t0 e ht=>(F.blk b0 (lt_of_heap e) (by
  simp
  rintro rfl
  rw [h.hf] at e
  cases e
  exact ht rfl)).trans e
 exact ⟨h.s.turn h.hf own_place F h.yl,hne _ _ _ h.hb (by decide),hne _ _ _ h.hc (by decide),by rw [heap_set (heap_set h.hf 0 _) 1 _];rfl,h.yl,by simp,by simp⟩
theorem down_W (h:Bw t m r R l0 l1 yb yc yf cu cg fm fn B K w W T M rs L) (x y a b:Int) (hab:Mt.down M.md M.es x y=(a,b)) :
  Calls Tryz.prog 38 #[P0 m,.agg #[I x,I y]] W fun e w'=>e=.returned (.agg #[I a,I b])∧Below W.heap.size W w':=by
 have:=Mt.down_Q h.s.a x y
 rw [hab] at this
 exact this
theorem stat_W (h:Bw t m r R l0 l1 yb yc yf cu cg fm fn B K w W T M rs L) (hB:B≤860) (n:Int) (hn:(kl n).wf=true) :
  Calls Tryz.prog 37 #[P0 t,I n] W fun e w'=>∃ (a mo u g l z:Int) (f:Bool),e=.returned (.tuple #[.agg #[I a,I (T.kindOf n),I mo,I u,I g,I l,I z],.bool f])∧Below W.heap.size W w':=by
 obtain ⟨a,mo,u,g,l,z,hst,-⟩:=Wl.stat_shape T n
 refine (stat_Q h.s.q (by omega) hn _ _ hst rfl).mono ?_
 rintro e w' ⟨h1,-,h2⟩
 exact ⟨a,mo,u,g,l,z,_,h1,unhide h2⟩
end
open Go.ChangeShapes Go.WideShapes Go.ChangeAt Go.RowKit Go.Deep
theorem spot_none {w:World} {b off:Nat} {sp:Option Nat} {v:Value} (h:w.cell? ⟨b,off,sp⟩=some v):sp=none:=by
 unfold World.cell? at h
 cases sp with
 | none=>rfl
 | some s=>cases hq:w.heap[b]? with
  | none=>simp [hq] at h
  | some o=>cases o <;> simp [hq] at h
theorem addr_add (b off i:Nat):(⟨b,off,none⟩:Addr).add i=⟨b,off + i,none⟩:=by unfold Addr.add;split <;> simp_all
theorem cells3:Tryz.prog.cellsOf 3=1:=by kernel_rfl
theorem cells9:Tryz.prog.cellsOf 9=1:=by kernel_rfl
theorem cellsS:Tryz.prog.cellsOf 33=7:=by kernel_rfl
theorem cellsP:Tryz.prog.cellsOf 50=2:=by kernel_rfl
theorem cellsC:Tryz.prog.cellsOf 57=2:=by kernel_rfl
theorem cellsA:Tryz.prog.cellsOf 52=15:=by kernel_rfl
theorem max_le:maxLen≤9223372036854775807:=by decide
theorem iw_of {n:Int} (h:(kl n).wf=true):Iw n:=by
 have:=Rb.wf_bounds h
 exact ⟨by omega,by omega⟩
theorem add_add (b:Addr) (i j:Nat):(b.add i).add j=b.add (i + j):=by
 unfold Addr.add
 by_cases hi:i=0
 ·subst hi;simp
 ·by_cases hj:j=0
  ·subst hj;simp [hi]
  ·simp [hi,hj,Nat.add_assoc]
def IntsAt (W:World) (pa:Option Addr) (len:Nat):Prop:=len≤9223372036854775807∧∀ i,i < len→∃ b off v,pa=some ⟨b,off,none⟩∧b < W.heap.size∧W.cell? ⟨b,off + i,none⟩=some (I v)∧Iw v
theorem IntsAt.below {W W':World} {pa:Option Addr} {len:Nat} (h:IntsAt W pa len) (g:Below W.heap.size W W'):IntsAt W' pa len :=
 ⟨h.1,fun i hi=>by
  obtain ⟨b,off,s,h1,h2,h3,h4⟩:=h.2 i hi
  exact ⟨b,off,s,h1,Nat.lt_of_lt_of_le h2 g.size,(cell_same (g.block b h2) _).trans h3,h4⟩⟩
theorem ints_of {H:Type} {enc:TypeId × Value→H} {w:World} {held:Bool} {fuel:Nat} {a:Option Addr} {len cap:Nat} {x:DataW H × List MemPlace}
  (h:DataW.trod enc Tryz.prog w 0 (fun _=>true) held fuel 72 [.slice a len cap]=some x):IntsAt w a len:=by
 rcases open_slice Tryz.underlying72 h with ⟨hcs,_⟩ | ⟨y,l,c,m,n,D,Pl,hcs,_,hl,hm,hmm,_,hx⟩
 ·simp at hcs
  obtain ⟨rfl,rfl,rfl⟩:=hcs
  exact ⟨Nat.zero_le _,fun i hi=>absurd hi (Nat.not_lt_zero _)⟩
 ·simp at hcs
  obtain ⟨rfl,rfl,rfl⟩:=hcs
  simp at hmm
  subst hmm
  have hml:=max_le
  refine ⟨by omega,fun i hi=>?_⟩
  have key:∀ j,j≤i→∃ v:Int,w.cell? (y.add j)=some (I v)∧(kl v).wf=true:=by
   intro j hj
   obtain ⟨cs',h1,h2⟩:=hx j (by omega)
   rw [cells3] at h1
   obtain ⟨_,hlen,hcell⟩:=World.cells?_some h1
   match cs',hlen with
   | [v0],_ =>
    obtain ⟨n0,e0,_,m0⟩:=DataW.trod_int Tryz.underlying3 h2
    simp at e0
    subst e0
    have q0:=hcell 0 (by omega)
    rw [add_add] at q0
    exact ⟨n0,by simpa using q0,m0⟩
  obtain ⟨_,c0,-⟩:=key 0 (by omega)
  obtain ⟨v,q0,hv⟩:=key i (by omega)
  obtain ⟨b,off,sp⟩:=y
  have e:(⟨b,off,sp⟩:Addr).add 0=⟨b,off,sp⟩:=rfl
  rw [e] at c0
  obtain rfl:=spot_none c0
  rw [addr_add] at q0
  exact ⟨b,off,v,rfl,lt_of_cell q0,q0,iw_of hv⟩
attribute [local go_sem ↓] Go.wp_at_zero Go.wp_at_succ
def names9:List ByteArray:=[⟨#[97]⟩,⟨#[98]⟩,⟨#[99]⟩,⟨#[108]⟩,⟨#[46,46]⟩,⟨#[46]⟩,⟨#[47]⟩,⟨#[47,47]⟩,⟨#[122,122]⟩]
theorem names9_size {s:ByteArray} (h:s ∈ names9):1≤s.size∧s.size≤2:=by
 simp only [names9,List.mem_cons,List.not_mem_nil,or_false] at h
 rcases h with rfl | rfl | rfl | rfl | rfl | rfl | rfl | rfl | rfl <;> decide
theorem row9 {W:World} {g:Nat} (h:W.heap[g]?=some (.cells #[Value.string ⟨#[97]⟩,Value.string ⟨#[98]⟩,Value.string ⟨#[99]⟩,Value.string ⟨#[108]⟩,Value.string ⟨#[46,46]⟩,Value.string ⟨#[46]⟩,Value.string ⟨#[47]⟩,Value.string ⟨#[47,47]⟩,Value.string ⟨#[122,122]⟩] 9)) (k:Nat) (hk:(k:Int) < 9):∃ s,s ∈ names9∧W.cell? ⟨g,k,none⟩=some (.string s):=by
 rw [cell_of h]
 match k,(by omega:k < 9) with
 | 0,_=>exact ⟨⟨#[97]⟩,by simp [names9],rfl⟩
 | 1,_=>exact ⟨⟨#[98]⟩,by simp [names9],rfl⟩
 | 2,_=>exact ⟨⟨#[99]⟩,by simp [names9],rfl⟩
 | 3,_=>exact ⟨⟨#[108]⟩,by simp [names9],rfl⟩
 | 4,_=>exact ⟨⟨#[46,46]⟩,by simp [names9],rfl⟩
 | 5,_=>exact ⟨⟨#[46]⟩,by simp [names9],rfl⟩
 | 6,_=>exact ⟨⟨#[47]⟩,by simp [names9],rfl⟩
 | 7,_=>exact ⟨⟨#[47,47]⟩,by simp [names9],rfl⟩
 | 8,_=>exact ⟨⟨#[122,122]⟩,by simp [names9],rfl⟩
theorem path_any (pa:Option Addr) (len cap:Nat) (w:World) (ha:IntsAt w pa len) :
  Calls Tryz.prog 35 #[.slice pa len cap] w fun e w'=>∃ s:ByteArray,e=.returned (.string s)∧s.size≤36∧Below w.heap.size w w':=by
 have hlen:(len:Int)≤9223372036854775807:=by have:=ha.1;omega
 obtain ⟨V,hV,hg,hB⟩:∃ V,w.alloc (.cells #[Value.string ⟨#[97]⟩,Value.string ⟨#[98]⟩,Value.string ⟨#[99]⟩,Value.string ⟨#[108]⟩,Value.string ⟨#[46,46]⟩,Value.string ⟨#[46]⟩,Value.string ⟨#[47]⟩,Value.string ⟨#[47,47]⟩,Value.string ⟨#[122,122]⟩] 9)=V∧V.heap[w.heap.size]?=some (.cells #[Value.string ⟨#[97]⟩,Value.string ⟨#[98]⟩,Value.string ⟨#[99]⟩,Value.string ⟨#[108]⟩,Value.string ⟨#[46,46]⟩,Value.string ⟨#[46]⟩,Value.string ⟨#[47]⟩,Value.string ⟨#[47,47]⟩,Value.string ⟨#[122,122]⟩] 9)∧Below w.heap.size w V:=⟨_,rfl,heap_alloc_new w _,(Below.refl _ _).alloc (Nat.le_refl _) _⟩
 have HA:=hide (ha.below hB)
 have HG:=hide hg
 have HB:=hide hB
 have HSm:=hide small_any
 clear ha hg hB
 generalize hgg:w.heap.size=g at *
 go_enter Tryz.func35,Tryz.ntmps35
 go_wp2_with fail
 go_loopw [3,5] (fun v3 v5 wr=>∃ (k:Nat) (s:ByteArray),v3=.string s∧v5=I k∧k≤12∧k≤len∧wr=V∧Hid (s.size≤3 * k∧(0 < k→0 < s.size))) (fun _ v _=>12 - (intOf v).toNat)
 case atStart=>exact ⟨0,⟨#[]⟩,rfl,rfl,by omega,by omega,rfl,hide ⟨by decide,by omega⟩⟩
 case round =>
  obtain ⟨k,s,rfl,rfl,hk,hkl,hwr,hI⟩:=hrel
  subst wr
  obtain ⟨hs1,hs2⟩:=unhide hI
  by_cases hc:k < len∧k < 12
  ·obtain ⟨b,off,v,rfl,hb,hv,hw1,hw2⟩:=(unhide HA).2 k hc.1
   have j1:(k:Int) < (len:Int):=by omega
   have j2:(k:Int) < 12:=by omega
   have j0:(0:Int)≤(k:Int):=by omega
   have hz:s.size≤36:=by omega
   clear hI
   go_wp2_with fail
   refine (unhide HSm v 9 _ hw1 hw2 (by decide) (by decide)).mono ?_
   rintro e w' ⟨q,rfl,hq,hw'⟩
   rw [hw']
   clear hw' w'
   obtain ⟨p,hp,gc⟩:=row9 (unhide HG) q hq
   have gc0:V.cell? ⟨g,0 + q,none⟩=some (.string p):=by rw [Nat.zero_add];exact gc
   have hq0:(0:Int)≤(q:Int):=by omega
   have hps:=names9_size hp
   have e47:(⟨#[47]⟩:ByteArray).size=1:=rfl
   simp only [names9,List.mem_cons,List.not_mem_nil,or_false] at hp
   by_cases hk0:k=0
   ·subst hk0
    obtain rfl:s=⟨#[]⟩:=by
     have:s.data=#[]:=Array.eq_empty_of_size_eq_zero (by
       have:s.size=0:=by omega
       exact this)
     cases s
     simp_all
    rcases hp with rfl | rfl | rfl | rfl | rfl | rfl | rfl | rfl | rfl <;>
    ·go_wp2_with fail
     refine ⟨⟨1,_,rfl,rfl,by omega,by omega,trivial,hide ⟨by decide,fun _=>by decide⟩⟩,by simp [intOf]⟩
   ·have k1:(0:Int) < (k:Int):=by omega
    have k2:0 < k:=by omega
    obtain ⟨m,hm⟩:∃ m:Nat,s.size=m + 1:=⟨s.size - 1,by have:=hs2 (by omega);omega⟩
    have u1:(s.size:Int) - 1=(m:Int):=by omega
    have u2:IntKind.i64.wrap ((s.size:Int) - 1)=(m:Int):=by rw [u1,IntKind.wrap_i64];omega
    have u3:(m:Int) < (s.size:Int):=by omega
    have u4:(0:Int)≤(m:Int):=by omega
    have HS1:=hide hs1
    have HPS:=hide (⟨hps,e47⟩:_∧_)
    clear hs1 hs2 hps e47
    rcases hp with rfl | rfl | rfl | rfl | rfl | rfl | rfl | rfl | rfl <;>
    ·go_wp2_with fail
     all_goals
      have hs1:=unhide HS1
      obtain ⟨hps,e47⟩:=unhide HPS
      refine ⟨⟨k + 1,_,rfl,by simp,by omega,by omega,trivial,hide ⟨?_,fun _=>?_⟩⟩,by simp [intOf];omega⟩
      ·simp only [ByteArray.size_append];omega
      ·simp only [ByteArray.size_append];omega
  ·by_cases hl:k < len
   ·have j1:(k:Int) < (len:Int):=by omega
    obtain rfl:k=12:=by omega
    have HI:=hide (show s.size≤36 by omega)
    go_wp2_with fail
    go_ret
    exact ⟨s,rfl,unhide HI,unhide HB⟩
   ·have j1:¬ ((k:Int) < (len:Int)):=by omega
    have HI:=hide (show s.size≤36 by omega)
    go_wp2_with fail
    go_ret
    exact ⟨s,rfl,unhide HI,unhide HB⟩
end Go.Proofs.YtlngeaacjbdmhaaGreat.Bt
