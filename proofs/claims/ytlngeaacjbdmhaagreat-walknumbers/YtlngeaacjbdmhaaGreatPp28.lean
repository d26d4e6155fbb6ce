/-
 The document's link,where the symlink is followed.
-/
import Derived.Test.YtlngeaacjbdmhaaGreatPp27
import Derived.Test.YtlngeaacjbdmhaaGreatPp23
set_option maxRecDepth 100000
set_option maxHeartbeats 4000000
namespace Go.Proofs.YtlngeaacjbdmhaaGreat.Wl
open Go.RowKit
attribute [local go_sem ↓] Go.wp_at_zero Go.wp_at_succ
section
variable {lo R:Nat} {W W0 W':World} {r b:Nat} {E:En} {rs:List Mt.Rm} {am an:Int} {lf:Value} {slash:Bool} {fol s:Nat} {dm dn:Int} {last:Bytes}
theorem own_ro {lo:Nat} {a:Option Addr} {m cap n:Nat} {q:List Bytes} (h:W.ownsRow lo 9 1 (.slice a m cap) n (Nm.strs q)) (hb:b < lo):Ro W b a q:=by
 refine ⟨Nm.RowO.of_own h,?_⟩
 rintro x rfl
 obtain ⟨-,⟨e,-⟩ | ⟨g,c,cur,e,hle,-⟩⟩:=h
 ·injection e with e1;cases e1
 ·injection e with e1
  injection e1 with e2
  subst e2
  show g≠b
  omega
theorem own_cap {lo:Nat} {a:Option Addr} {n cap:Nat} {q:List Value} (h:W.ownsRow lo 9 1 (.slice a n cap) n q):n≤cap∧cap≤maxLen:=by
 obtain ⟨hl,⟨h1,hz⟩ | ⟨g',cap',cur,h1,-,-,hcap,hcm,-,-⟩⟩:=h
 ·simp only [Value.slice.injEq] at h1
  unfold maxLen
  omega
 ·simp only [Value.slice.injEq] at h1
  obtain ⟨-,-,rfl⟩:=h1
  exact ⟨hcap,hcm⟩
theorem ne_of_type {Z:World} {k:Nat} {cs cur:Array Value} {t:TypeId} (h:Z.heap[b]?=some (.cells cs t)) (ht:t≠9) {f:Nat × Nat} (hc:Z.heap[k]?=some (.cells cur 9 f)):k≠b:=by
 rintro rfl
 rw [h] at hc
 injection hc with e
 injection e with _ e2 _
 exact ht e2
structure Tz (b:Nat) (W0 Z X:World):Prop where
 kp:∀ k,k≠b→X.heap[k]?=Z.heap[k]?
 sz:X.heap.size=Z.heap.size
 be:Below W0.heap.size W0 X
theorem Tz.cell {Z X:World} (h:Tz b W0 Z X) {k i:Nat} {v:Value} (hk:k≠b) (hc:Z.cell? ⟨k,i,none⟩=some v):X.cell? ⟨k,i,none⟩=some v:=cell_kp hc (h.kp k hk)
theorem Tz.trans {Z X Y:World} (h:Tz b W0 Z X) (g:Tz b W0 X Y):Tz b W0 Z Y:=⟨fun k hk=>(g.kp k hk).trans (h.kp k hk),g.sz.trans h.sz,g.be⟩
theorem Tz.ro {Z X:World} (h:Tz b W0 Z X) {a:Option Addr} {q:List Bytes} (hr:Ro Z b a q):Ro X b a q:=by
 refine ⟨fun k s hk=>?_,hr.2⟩
 obtain ⟨pb,off,h1,h2,h3⟩:=hr.1 k s hk
 exact ⟨pb,off,h1,by rw [h.sz];exact h2,h.cell (show pb≠b from hr.2 _ h1) h3⟩
theorem Rn.slashed (h:Rn W b r R E am an lf slash fol s dm dn last) (g:Below W0.heap.size W0 W) (h0:W0.heap.size≤b) (v:Bool):∃ X,W.setCell ⟨b,9,none⟩ (.bool v)=X∧Rn X b r R E am an lf v fol s dm dn last∧Tz b W0 W X:=by
 obtain ⟨X,h1,h2,h3,h4,h5⟩:=h.turn (slash':=v) (am':=am) (an':=an) (lf':=lf) (fol':=fol) (s':=s) (dm':=dm) (dn':=dn) (last':=last) 9 (.bool v) (by unfold rwC;simp)
 exact ⟨X,h1,h2,h4,h5,h3 _ _ g h0⟩
theorem Rn.lasted (h:Rn W b r R E am an lf slash fol s dm dn last) (g:Below W0.heap.size W0 W) (h0:W0.heap.size≤b) (v:Bytes):∃ X,W.setCell ⟨b,15,none⟩ (.string (bs v))=X∧Rn X b r R E am an lf slash fol s dm dn v∧Tz b W0 W X:=by
 obtain ⟨X,h1,h2,h3,h4,h5⟩:=h.turn (slash':=slash) (am':=am) (an':=an) (lf':=lf) (fol':=fol) (s':=s) (dm':=dm) (dn':=dn) (last':=v) 15 (.string (bs v)) (by unfold rwC;simp)
 exact ⟨X,h1,h2,h4,h5,h3 _ _ g h0⟩
theorem Rn.lefted (h:Rn W b r R E am an lf slash fol s dm dn last) (g:Below W0.heap.size W0 W) (h0:W0.heap.size≤b) (v:Value):∃ X,W.setCell ⟨b,8,none⟩ v=X∧Rn X b r R E am an v slash fol s dm dn last∧Tz b W0 W X:=by
 obtain ⟨X,h1,h2,h3,h4,h5⟩:=h.turn (slash':=slash) (am':=am) (an':=an) (lf':=v) (fol':=fol) (s':=s) (dm':=dm) (dn':=dn) (last':=last) 8 v (by unfold rwC;simp)
 exact ⟨X,h1,h2,h4,h5,h3 _ _ g h0⟩
theorem Rn.moved (h:Rn W b r R E am an lf slash fol s dm dn last) (g:Below W0.heap.size W0 W) (h0:W0.heap.size≤b) (x y:Int):∃ X1 X2,(W.setCell ⟨b,6,none⟩ (I x)=X1∧X1.setCell ⟨b,7,none⟩ (I y)=X2)∧(W.cell? ⟨b,6,none⟩=some (I am)∧X1.cell? ⟨b,7,none⟩=some (I an))∧(W.frozen? ⟨b,6,none⟩=false∧X1.frozen? ⟨b,7,none⟩=false)∧Rn X2 b r R E x y lf slash fol s dm dn last∧Tz b W0 W X2:=by
 obtain ⟨X1,h1,h2,h3,h4,h5⟩:=h.turn (slash':=slash) (am':=x) (an':=an) (lf':=lf) (fol':=fol) (s':=s) (dm':=dm) (dn':=dn) (last':=last) 6 (I x) (by unfold rwC;simp)
 obtain ⟨X2,k1,k2,k3,k4,k5⟩:=h2.turn (slash':=slash) (am':=x) (an':=y) (lf':=lf) (fol':=fol) (s':=s) (dm':=dm) (dn':=dn) (last':=last) 7 (I y) (by unfold rwC;simp)
 exact ⟨X1,X2,⟨h1,k1⟩,⟨h.c1.2.2.2.2.2.2.1,h2.c1.2.2.2.2.2.2.2.1⟩,⟨h.c1.2.2.2.2.2.2.2.2.2.2 6,h2.c1.2.2.2.2.2.2.2.2.2.2 7⟩,k2,fun k hk=>(k4 k hk).trans (h4 k hk),k5.trans h5,k3 _ _ (h3 _ _ g h0) h0⟩
theorem rlink_yes (D:Rd lo R W0 r E rs) (h0:W0.heap.size≤b) (g:Below W0.heap.size W0 W) (hw:Rn W b r R E am an lf slash fol s dm dn last) (hn:(kl an).wf=true) (hf:fol < 40) (im jm:Int) (pb po n cap:Nat) (rest:List Bytes) (hrn:rest.length=n) (hrow:Ro W b (some ⟨pb,po,none⟩) rest) (hwt:Nm.wt rest≤10000) (c:UInt8) (l:Bytes) (ht:E.text an=c :: l) (hlong:(c :: l).length + (Nm.pw false slash rest).length≤4096) (hx:Nm.err (c :: l)=0) (bm bn:Int) (hb1:(E.beg (onP (c :: l) slash rest) im jm).1=bm) (hb2:(E.beg (onP (c :: l) slash rest) im jm).2=bn) :
  Calls Tryz.prog 162 #[P0 b,.agg #[I im,I jm],.slice (some ⟨pb,po,none⟩) n cap] W fun e w'=>e=.returned (I 0)∧∃ a k cc,Rn w' b r R E bm bn (.slice a k cc) (onP (c :: l) slash rest).slash (fol + 1) s dm dn []∧k=(onP (c :: l) slash rest).parts.length∧Ro w' b a (onP (c :: l) slash rest).parts∧Below W0.heap.size W0 w'∧k≤cc∧cc≤maxLen:=by
 obtain ⟨V,hV,g1,hB⟩:∃ V,W.alloc (.cells #[I im,I jm] 50)=V∧V.heap[W.heap.size]?=some (.cells #[I im,I jm] 50)∧Below W.heap.size W V:=⟨_,rfl,heap_alloc_new W _,(Below.refl _ W).alloc (Nat.le_refl _) _⟩
 obtain ⟨-,v11,-⟩:=(hw.below hB).c2
 have vf:=(hw.below hB).c1.2.2.2.2.2.2.2.2.2.2 11
 have hbl:=hw.lt
 have n1:b≠W.heap.size:=by omega
 have n2:W.heap.size≠b:=by omega
 obtain ⟨X,hX,hwX,hXB,hXk,hXs⟩:=(hw.below hB).folded
 have hBX:Below W0.heap.size W0 X:=hXB _ _ (g.trans (hB.mono g.size)) h0
 have hrX:Ro X b (some ⟨pb,po,none⟩) rest:=hX ▸ (hrow.below hB).set 11 _
 have gX:=(hXk W.heap.size n2).trans g1
 obtain ⟨c0,-,-,-,-,-,c6,c7,-,c9,-⟩:=hwX.c1
 have HT:=hide (fun k=>text_R D (s:=bs (c :: l)) (n:=an) hn (by rw [← ht];rfl) (X.drewN k) (below_dn hBX k))
 have hf1:¬ (40:Int)≤(fol:Int):=by omega
 have hf2:(fol:Int) < 40:=by omega
 have hf3:(0:Int)≤(fol:Int):=by omega
 have HB:=hide (⟨hBX,hwX,hrX,gX⟩:_∧_∧_∧_)
 have HW:=hide (fun k=>Nm.rwr_any false slash rest n hrn (some ⟨pb,po,none⟩) cap (X.drewN k) (hrX.below (below_n X k)).1 (by omega))
 have HRd:=hide (rread_own (c :: l))
 rw [hx] at HRd
 have hpl:(Nm.ps (c :: l)).length≤4098:=by
  have h1:=Nm.parts_le (c :: l)
  unfold Nm.ps
  rw [if_pos hx]
  omega
 have hrl:rest.length≤10000:=by
  have h2:∀ q:List (List UInt8),q.length≤Nm.wt q:=by
   intro q
   induction q with
   | nil=>simp
   | cons p r ih=>simp [Nm.wt];omega
  have:=h2 rest
  omega
 have Hb:=hide (⟨hb1,hb2⟩:_∧_)
 clear g1 hB hw hXB hXk hXs hBX hwX hrX gX D g hrow ht hn hb1 hb2
 generalize Nm.pw false slash rest=pp at *
 have hpp:pp.length≤4096:=by omega
 have hl1:l.length≤4096:=by simp at hlong;omega
 have hlo:¬ (4096:Int) < (l.length:Int) + 1 + (pp.length:Int):=by simp at hlong;omega
 clear hlong hwt hx
 show Calls _ _ _ _ fun e w'=>e=.returned (I 0)∧∃ a k cc,Rn w' b r R E bm bn (.slice a k cc) (slash || (Nm.sl (c :: l) && rest.isEmpty)) (fol + 1) s dm dn []∧k=(Nm.ps (c :: l) ++ rest).length∧Ro w' b a (Nm.ps (c :: l) ++ rest)∧Below W0.heap.size W0 w'∧k≤cc∧cc≤maxLen
 obtain ⟨ro,hro⟩:∃ ro,Nm.rt (c :: l)=ro:=⟨_,rfl⟩
 rw [hro] at HRd
 have hbeg:∀ x,E.beg (onP (c :: l) slash rest) im jm=x→x=if ro=true then (E.rm,E.rn) else (im,jm):=by
  rintro x rfl
  rw [← hro]
  rfl
 obtain ⟨st,hst⟩:∃ st,Nm.sl (c :: l)=st:=⟨_,rfl⟩
 rw [hst] at HRd ⊢
 generalize Nm.ps (c :: l)=ps at *
 have Hbg:Hid (bm=(if ro=true then E.rm else im)∧bn=(if ro=true then E.rn else jm)):=by
  have e1:=hbeg _ rfl
  obtain ⟨h1,h2⟩:=unhide Hb
  rw [e1] at h1 h2
  refine ⟨?_,?_⟩
  ·rw [← h1];split <;> rfl
  ·rw [← h2];split <;> rfl
 clear hbeg Hb hro hst
 obtain ⟨ns,hns⟩:∃ ns,ns=(slash || (st && rest.isEmpty)):=⟨_,rfl⟩
 rw [← hns]
 go_enter Tryz.func162,Tryz.ntmps162
 go_wp2_with fail
 go_quiet ((go_at_call 91;exact Calls.quiet_of_same (unhide HT _)))
 have c9':(X.drewN nq).cell? ⟨b,9,none⟩=some (.bool slash):=c9
 have HW2:=hide (unhide HW nq)
 have HB2:=hide (show Below W0.heap.size W0 (X.drewN nq)∧Rn (X.drewN nq) b r R E am an lf slash (fol + 1) s dm dn last∧Ro (X.drewN nq) b (some ⟨pb,po,none⟩) rest∧(X.drewN nq).heap[W.heap.size]?=some (.cells #[I im,I jm] 50) from ⟨below_dn (unhide HB).1 nq,(unhide HB).2.1,(unhide HB).2.2.1,(unhide HB).2.2.2⟩)
 generalize X.drewN nq=Y at *
 clear HW HT HB c0 c6 c7 c9
 go_wp2_with fail
 refine (unhide HW2).mono ?_
 rintro e w3 ⟨rfl,hB3⟩
 have HB3:=hide hB3
 clear hB3 HW2 c9'
 go_wp2_with fail
 refine (unhide HRd w3).mono ?_
 rintro e w4 ⟨v,rfl,own,hB4⟩
 obtain ⟨va,vc,rfl⟩:=Nm.own_form own
 have hB3:=unhide HB3
 obtain ⟨y1,y2,y3,y4⟩:=unhide HB2
 obtain ⟨Z,hZ,gZ,hBZ,hZs⟩:∃ Z,w4.alloc (.cells #[.bool ro,.bool st,.slice va ps.length vc] 171)=Z∧Z.heap[w4.heap.size]?=some (.cells #[.bool ro,.bool st,.slice va ps.length vc] 171)∧Below w4.heap.size w4 Z∧Z.heap.size=w4.heap.size + 1:=⟨_,rfl,heap_alloc_new _ _,(Below.refl _ _).alloc (Nat.le_refl _) _,by simp⟩
 have hBYZ:Below Y.heap.size Y Z:=hB3.trans ((hB4.mono hB3.size).trans (hBZ.mono (Nat.le_trans hB3.size hB4.size)))
 have z1:Below W0.heap.size W0 Z:=y1.trans (hBYZ.mono y1.size)
 have z2:=y2.below hBYZ
 have z3:=y3.below hBYZ
 have z4:=(hBYZ.block _ (lt_of_heap y4)).trans y4
 have zO:Z.ownsRow w3.heap.size 9 1 (.slice va ps.length vc) ps.length (Nm.strs ps):=Nm.own_keep own fun k cur hc=>hBZ.block k (lt_of_heap hc)
 have hby:=y2.lt
 have hwy:=lt_of_heap y4
 have hs34:Y.heap.size≤w3.heap.size∧w3.heap.size≤w4.heap.size:=⟨hB3.size,hB4.size⟩
 have nP:w4.heap.size≠b:=by omega
 have nP2:b≠w4.heap.size:=by omega
 obtain ⟨k0,k1,k2,kf⟩:=cells3 gZ
 obtain ⟨-,-,-,-,-,-,-,-,-,q9,qf⟩:=z2.c1
 have qf9:=qf 9
 obtain ⟨X9,hX9,rn9,tz9⟩:=z2.slashed z1 h0 true
 have HZ:=hide (⟨z1,z2,z3,z4,zO,gZ⟩:_∧_∧_∧_∧_∧_)
 have H9:=hide (⟨rn9,tz9⟩:_∧_)
 clear z1 z2 z3 z4 zO gZ hBYZ hBZ y1 y2 y3 y4 hB3 hB4 HB3 HB2 own rn9 tz9 HRd qf
 go_upto_region 12 with fail
 go_cut [60] from 54 to 59 (fun s60 wc=>wc=Z∧s60=.bool (st && rest.isEmpty))
 case first =>
  cases st with
  | false =>
   go_wp2_with fail
   go_meet
   case rel=>exact ⟨rfl,rfl⟩
  | true =>
   by_cases hn0:n=0
   ·have hre:rest.isEmpty=true:=by rw [List.eq_nil_of_length_eq_zero (hrn.trans hn0)];rfl
    subst hn0
    clear hns
    go_wp2_with fail
    go_meet
    case rel=>exact ⟨rfl,by rw [hre];rfl⟩
   ·have hre:rest.isEmpty=false:=by
     cases rest with
     | nil=>exact absurd hrn.symm hn0
     | cons _ _=>rfl
    have h1:((n:Int) == 0)=false:=by simpa using hn0
    have h2:¬ (n:Int)=0:=by omega
    clear hns
    go_wp2_with fail
    go_meet
    case rel=>exact ⟨rfl,by rw [hre];rfl⟩
 case rest =>
 obtain ⟨e1,rfl⟩:=hcut
 rw [e1]
 clear e1 wc
 generalize (st && rest.isEmpty)=cnd at *
 go_upto_if 60 with fail
 go_cut [] from 61 to 63 (fun wc'=>Hid (Rn wc' b r R E am an lf ns (fol + 1) s dm dn last∧Tz b W0 Z wc'))
 case first =>
  cases cnd with
  | false =>
   obtain rfl:ns=slash:=by simpa using hns
   clear hns
   go_wp2_with fail
   go_meet
   case rel=>exact hide ⟨(unhide HZ).2.1,fun _ _=>rfl,rfl,(unhide HZ).1⟩
  | true =>
   obtain rfl:ns=true:=by simpa using hns
   clear hns
   go_wp2_with fail
   go_meet
   case rel=>exact H9
 case rest =>
  obtain ⟨Y1,hY1⟩:∃ Y1,Y1=wc:=⟨_,rfl⟩
  rw [← hY1] at hcut ⊢
  clear hY1 hX9 H9 q9 qf9 hns wc
  obtain ⟨r1,t1⟩:=unhide hcut
  obtain ⟨z1,z2,z3,z4,zO,gZ⟩:=unhide HZ
  have d4:=(t1.kp _ n2).trans z4
  have e0:Y1.cell? ⟨W.heap.size,0,none⟩=some (I im):=by rw [cell_of d4];rfl
  have e1:Y1.cell? ⟨W.heap.size,1,none⟩=some (I jm):=by rw [cell_of d4];rfl
  obtain ⟨M1,M2,⟨m1,m2⟩,⟨o0,o1⟩,⟨p0,p1⟩,r2,t2⟩:=r1.moved t1.be h0 im jm
  have gP:=(t2.kp _ nP).trans ((t1.kp _ nP).trans gZ)
  obtain ⟨j0,j1,j2,jf⟩:=cells3 gP
  obtain ⟨N1,N2,⟨a1,a2⟩,⟨o2,o3⟩,⟨p2,p3⟩,r3,t3⟩:=r2.moved t2.be h0 E.rm E.rn
  obtain ⟨-,-,s2,s3,-⟩:=r2.c1
  have HM:=hide (⟨r2,t1.trans t2⟩:_∧_)
  have HN:=hide (⟨r3,(t1.trans t2).trans t3⟩:_∧_)
  clear z1 z2 z3 z4 zO gZ hcut r1 t1 d4 r2 t2 gP r3 t3 k0 k1 k2 kf j1 j2 jf v11 vf hV hX hZ
  go_upto_if 69 with fail
  go_cut [] from 70 to 76 (fun wc=>Hid (Rn wc b r R E bm bn lf ns (fol + 1) s dm dn last∧Tz b W0 Z wc))
  case first =>
   have hb:=unhide Hbg
   cases ro with
   | false =>
    obtain ⟨rfl,rfl⟩:bm=im∧bn=jm:=by simpa using hb
    clear hb
    go_wp2_with fail
    go_meet
    case rel=>exact HM
   | true =>
    obtain ⟨rfl,rfl⟩:bm=E.rm∧bn=E.rn:=by simpa using hb
    clear hb
    go_wp2_with fail
    go_meet
    case rel=>exact HN
  case rest =>
   obtain ⟨Y2,hY2⟩:∃ Y2,Y2=wc:=⟨_,rfl⟩
   rw [← hY2] at hcut ⊢
   clear hY2 wc m1 m2 o0 o1 p0 p1 a1 a2 o2 o3 p2 p3 s2 s3 HM HN e0 e1 j0 Hbg
   obtain ⟨r4,t4⟩:=unhide hcut
   obtain ⟨z1,z2,z3,z4,zO,gZ⟩:=unhide HZ
   obtain ⟨L,hL,r5,t5⟩:=r4.lasted t4.be h0 []
   have hL':Y2.setCell ⟨b,15,none⟩ (.string ⟨#[]⟩)=L:=hL
   have y15:Y2.cell? ⟨b,15,none⟩=some (.string (bs last)):=r4.c2.2.2.2.2.2.1
   have yf15:=r4.c1.2.2.2.2.2.2.2.2.2.2 15
   have gP:=(t5.kp _ nP).trans ((t4.kp _ nP).trans gZ)
   obtain ⟨j0,j1,j2,jf⟩:=cells3 gP
   have oL:L.ownsRow w3.heap.size 9 1 (.slice va ps.length vc) ps.length (Nm.strs ps):=Nm.own_keep zO fun k cur hc=>by
    have hk:=ne_of_type z2 (by decide) hc
    exact (t5.kp k hk).trans (t4.kp k hk)
   have rL:=(t4.trans t5).ro z3
   have hbL:b < L.heap.size:=r5.lt
   obtain ⟨v1,A1,run1,own1,hB1⟩:=anew_run oL (by omega)
   obtain ⟨v2,A2,run2,own2,hB2,hA2,hK2⟩:=join_run own1 hB1.size (by omega) hrl (cap:=cap) (rL.below hB1).1
   obtain ⟨f1,g1,rfl⟩:=Nm.own_form own1
   obtain ⟨f2,g2,rfl⟩:=Nm.own_form own2
   have r6:Rn A2 b r R E bm bn lf ns (fol + 1) s dm dn []:=hK2 b _ _ (r5.below hB1) (by decide)
   have bL:=hB2 L hB1
   have bA:Below W0.heap.size W0 A2:=t5.be.trans (bL.mono t5.be.size)
   obtain ⟨F,hF,r7,t7⟩:=r6.lefted bA h0 (.slice f2 (ps ++ rest).length g2)
   have q8:A2.cell? ⟨b,8,none⟩=some lf:=r6.c1.2.2.2.2.2.2.2.2.1
   have qf8:=r6.c1.2.2.2.2.2.2.2.2.2.2 8
   have oF:F.ownsRow L.heap.size 9 1 (.slice f2 (ps ++ rest).length g2) (ps ++ rest).length (Nm.strs (ps ++ rest)):=Nm.own_keep own2 fun k cur hc=>t7.kp k (ne_of_type r6 (by decide) hc)
   have HF:=hide (⟨r7,own_ro oF hbL,t7.be,own_cap oF⟩:_∧_∧_∧_)
   rw [hrn] at run2
   have hPL:w4.heap.size < L.heap.size:=lt_of_heap gP
   have nPL:w4.heap.size≠L.heap.size:=by omega
   have j3:(L.alloc (.cells #[] 9)).cell? ⟨w4.heap.size,2,none⟩=some (.slice va ps.length vc):=cell_be j2 ((Below.refl _ L).alloc (Nat.le_refl _) _)
   obtain ⟨L2,hL2⟩:∃ L2,L.alloc (.cells #[] 9)=L2:=⟨_,rfl⟩
   rw [hL2] at run1 j3
   generalize hq:(ps ++ rest).length=N at *
   clear z1 z2 z3 z4 zO gZ hcut r4 t4 r5 t5 gP jf oL rL own1 own2 hB1 hB2 hA2 hK2 r6 bL bA r7 t7 oF hL j0 j1 HZ
   go_wp2_with (first
    | (at_builtin;refine wpList_append_eq rfl _ _ 55 rfl 55 rfl _ _ (by rfl) (by rfl) _ _ run1 ?_;clear run1)
    | (at_builtin;refine wpList_append_eq rfl _ _ 55 rfl 55 rfl _ _ (by rfl) (by rfl) _ _ run2 ?_))
   go_ret
   obtain ⟨r7,ro7,be7,cp7⟩:=unhide HF
   exact ⟨rfl,f2,N,g2,r7,hq.symm,ro7,be7,cp7⟩
end
end Go.Proofs.YtlngeaacjbdmhaaGreat.Wl
namespace Go.Proofs.YtlngeaacjbdmhaaGreat.Rf
open Go.RowKit Go.Maps
attribute [local go_sem ↓] Go.wp_at_zero Go.wp_at_succ
section
variable {lo N:Nat} {W W':World} {r:Nat} {T:Tr} {p:Nat} {Lv:Value} {nb:Int→Nat} {ev:Int→Value} {uv:Int→Int} {B:Nat}
theorem dMake_no (h:DtI lo N W r T p Lv nb ev uv) (hw:Wf B T) (hB:B≤890) (dir:Int) (s:ByteArray) (hd:(kl dir).wf=true) (hs:s.size≤100000) (sn kd mo ui gi li si:Int) (text:ByteArray) (q:Int) (hq:T.makeE dir s kd text=q) (hq0:q≠0) (h16:∀ x,T.nd dir=some x→T.links x≤16) :
  Calls Tryz.prog 65 #[P0 r,I dir,.string s,.agg #[I sn,I kd,I mo,I ui,I gi,I li,I si],.string text] W fun e w'=>e=.returned (.tuple #[I 0,I q])∧Below W.heap.size W w':=by
 obtain ⟨V,hV,hS,hB1⟩:∃ V,W.alloc (.cells #[I sn,I kd,I mo,I ui,I gi,I li,I si] 33)=V∧V.heap[W.heap.size]?=some (.cells #[I sn,I kd,I mo,I ui,I gi,I li,I si] 33)∧Below W.heap.size W V:=⟨_,rfl,putAll _ _ rfl,(Below.refl _ _).alloc (Nat.le_refl _) _⟩
 obtain ⟨vd,hvd⟩:∃ v,dirV T nb dir=v:=⟨_,rfl⟩
 have HD:=hide (dir_any (h.below hB1) hw.k (by omega) dir hd vd hvd)
 have HQ:=hide (r7_any s hs V)
 obtain ⟨s0,s1,s2,s3,s4,s5,s6,sf⟩:=cells7 hS
 have HB:=hide hB1
 cases hx:T.dir dir with
 | none =>
  obtain rfl:q=1:=by rw [← hq];simp [Tr.makeE,hx]
  rw [dirV,hx] at hvd
  subst hvd
  clear h hw hB1 hS hq
  go_enter Tryz.func65,Tryz.ntmps65
  go_wp2_with (first
   | (go_at_call 81;refine (unhide HD).mono ?_;rintro e w1 ⟨rfl,hw1⟩;rw [hw1];clear hw1)
   | (go_at_call 126;refine (unhide HQ).mono ?_;rintro e w1 ⟨rfl,hw1⟩;rw [hw1];clear hw1)
   | (go_at_call 127;refine (unhide HFi).mono ?_;rintro e w1 ⟨rfl,hw1⟩;rw [hw1];clear hw1)
   | (go_at_call 128;refine (unhide HG).mono ?_;rintro e w1 ⟨rfl,hw1⟩;rw [hw1];clear hw1)
   | (go_at_call 129;refine (unhide HK).mono ?_;rintro e w1 ⟨rfl,hw1⟩;rw [hw1];clear hw1)
   | (go_at_call 87;refine (unhide HLf).mono ?_;rintro e w1 ⟨rfl,HB2⟩))
  go_ret2
  exact ⟨rfl,unhide HB⟩
 | some x =>
  rw [dirV,hx] at hvd
  subst hvd
  have hxn:=(Tr.dir_some.1 hx).1
  have hxk:=(Tr.dir_some.1 hx).2
  cases hrs:right s with
  | false =>
   obtain rfl:q=1:=by rw [← hq];simp [Tr.makeE,hx,hrs]
   rw [hrs] at HQ
   clear h hw hB1 hS hq
   go_enter Tryz.func65,Tryz.ntmps65
   go_wp2_with (first
    | (go_at_call 81;refine (unhide HD).mono ?_;rintro e w1 ⟨rfl,hw1⟩;rw [hw1];clear hw1)
    | (go_at_call 126;refine (unhide HQ).mono ?_;rintro e w1 ⟨rfl,hw1⟩;rw [hw1];clear hw1)
    | (go_at_call 127;refine (unhide HFi).mono ?_;rintro e w1 ⟨rfl,hw1⟩;rw [hw1];clear hw1)
    | (go_at_call 128;refine (unhide HG).mono ?_;rintro e w1 ⟨rfl,hw1⟩;rw [hw1];clear hw1)
    | (go_at_call 129;refine (unhide HK).mono ?_;rintro e w1 ⟨rfl,hw1⟩;rw [hw1];clear hw1)
    | (go_at_call 87;refine (unhide HLf).mono ?_;rintro e w1 ⟨rfl,HB2⟩))
   go_ret2
   exact ⟨rfl,unhide HB⟩
  | true =>
   rw [hrs] at HQ
   by_cases hk1:kd < 1
   ·obtain rfl:q=1:=by
     rw [← hq]
     have:fitsB kd text=false:=by unfold fitsB;rw [if_neg (by omega)];simp;omega
     simp [Tr.makeE,hx,hrs,this]
    clear h hw hB1 hS hq
    go_enter Tryz.func65,Tryz.ntmps65
    go_wp2_with (first
     | (go_at_call 81;refine (unhide HD).mono ?_;rintro e w1 ⟨rfl,hw1⟩;rw [hw1];clear hw1)
     | (go_at_call 126;refine (unhide HQ).mono ?_;rintro e w1 ⟨rfl,hw1⟩;rw [hw1];clear hw1)
     | (go_at_call 127;refine (unhide HFi).mono ?_;rintro e w1 ⟨rfl,hw1⟩;rw [hw1];clear hw1)
     | (go_at_call 128;refine (unhide HG).mono ?_;rintro e w1 ⟨rfl,hw1⟩;rw [hw1];clear hw1)
     | (go_at_call 129;refine (unhide HK).mono ?_;rintro e w1 ⟨rfl,hw1⟩;rw [hw1];clear hw1)
     | (go_at_call 87;refine (unhide HLf).mono ?_;rintro e w1 ⟨rfl,HB2⟩))
    go_ret2
    exact ⟨rfl,unhide HB⟩
   ·by_cases hk3:3 < kd
    ·obtain rfl:q=1:=by
      rw [← hq]
      have:fitsB kd text=false:=by unfold fitsB;rw [if_neg (by omega)];simp;omega
      simp [Tr.makeE,hx,hrs,this]
     clear h hw hB1 hS hq
     go_enter Tryz.func65,Tryz.ntmps65
     go_wp2_with (first
      | (go_at_call 81;refine (unhide HD).mono ?_;rintro e w1 ⟨rfl,hw1⟩;rw [hw1];clear hw1)
      | (go_at_call 126;refine (unhide HQ).mono ?_;rintro e w1 ⟨rfl,hw1⟩;rw [hw1];clear hw1)
      | (go_at_call 127;refine (unhide HFi).mono ?_;rintro e w1 ⟨rfl,hw1⟩;rw [hw1];clear hw1)
      | (go_at_call 128;refine (unhide HG).mono ?_;rintro e w1 ⟨rfl,hw1⟩;rw [hw1];clear hw1)
      | (go_at_call 129;refine (unhide HK).mono ?_;rintro e w1 ⟨rfl,hw1⟩;rw [hw1];clear hw1)
      | (go_at_call 87;refine (unhide HLf).mono ?_;rintro e w1 ⟨rfl,HB2⟩))
     go_ret2
     exact ⟨rfl,unhide HB⟩
    ·have hkk:kd=1 ∨ kd=2 ∨ kd=3:=by omega
     by_cases ht:text=⟨#[]⟩ ∨ kd=3
     ·have hfit:fitsB kd text=true:=by
       unfold fitsB
       rcases hkk with rfl | rfl | rfl
       ·simpa using ht
       ·simpa using ht
       ·simp
      have hl:=(hw.k.bnd dir x hxn).2.2
      by_cases ht1:text=⟨#[]⟩
      ·subst ht1
       have hV1:=(h.below hB1).hn dir x hxn
       cases hg:getE x.ins s with
       | some z =>
        obtain rfl:q=35:=by rw [← hq];simp [Tr.makeE,hx,hrs,hfit,refusesE,hg]
        have HFi:=hide (find_any hV1.1 hV1.2 (hw.k.srt dir x hxn) (by omega) s (pos x.ins s:Int) (by rw [idx,hg]))
        generalize pos x.ins s=ps at *
        have g0:(0:Int)≤(ps:Int):=by omega
        clear h hw hB1 hS hq hV1
        go_enter Tryz.func65,Tryz.ntmps65
        go_wp2_with (first
         | (go_at_call 81;refine (unhide HD).mono ?_;rintro e w1 ⟨rfl,hw1⟩;rw [hw1];clear hw1)
         | (go_at_call 126;refine (unhide HQ).mono ?_;rintro e w1 ⟨rfl,hw1⟩;rw [hw1];clear hw1)
         | (go_at_call 127;refine (unhide HFi).mono ?_;rintro e w1 ⟨rfl,hw1⟩;rw [hw1];clear hw1)
         | (go_at_call 128;refine (unhide HG).mono ?_;rintro e w1 ⟨rfl,hw1⟩;rw [hw1];clear hw1)
         | (go_at_call 129;refine (unhide HK).mono ?_;rintro e w1 ⟨rfl,hw1⟩;rw [hw1];clear hw1)
         | (go_at_call 87;refine (unhide HLf).mono ?_;rintro e w1 ⟨rfl,HB2⟩))
        go_ret2
        exact ⟨rfl,unhide HB⟩
       | none =>
        have HFi:=hide (find_any hV1.1 hV1.2 (hw.k.srt dir x hxn) (by omega) s (-1) (by rw [idx,hg]))
        by_cases hnm:x.names=0
        ·obtain rfl:q=32:=by rw [← hq];simp [Tr.makeE,hx,hrs,hfit,refusesE,hg,hnm]
         have HG:=hide (gone_any (h.below hB1) hw.k (by omega) hd hxn true (by simp [hnm]))
         clear h hw hB1 hS hq hV1
         go_enter Tryz.func65,Tryz.ntmps65
         go_wp2_with (first
          | (go_at_call 81;refine (unhide HD).mono ?_;rintro e w1 ⟨rfl,hw1⟩;rw [hw1];clear hw1)
          | (go_at_call 126;refine (unhide HQ).mono ?_;rintro e w1 ⟨rfl,hw1⟩;rw [hw1];clear hw1)
          | (go_at_call 127;refine (unhide HFi).mono ?_;rintro e w1 ⟨rfl,hw1⟩;rw [hw1];clear hw1)
          | (go_at_call 128;refine (unhide HG).mono ?_;rintro e w1 ⟨rfl,hw1⟩;rw [hw1];clear hw1)
          | (go_at_call 129;refine (unhide HK).mono ?_;rintro e w1 ⟨rfl,hw1⟩;rw [hw1];clear hw1)
          | (go_at_call 87;refine (unhide HLf).mono ?_;rintro e w1 ⟨rfl,HB2⟩))
         go_ret2
         exact ⟨rfl,unhide HB⟩
        ·have HG:=hide (gone_any (h.below hB1) hw.k (by omega) hd hxn false (by simp [hnm]))
         have HK:=hide (links_any (h.below hB1) hw.k (by omega) hd hxn (fun _=>hxk) (T.links x) rfl)
         have HLf:=hide (dLeft_any (h.below hB1) hw.k (by omega) (by have:=hw.k.mst;omega))
         have hl16:=h16 x hxn
         have hBs:=hB1.size
         by_cases h44:kd=1∧T.links x=16
         ·obtain rfl:q=44:=by rw [← hq];simp [Tr.makeE,hx,hrs,refusesE,hg,hnm,h44,fitsB]
          rw [h44.2] at HK
          have hk11:=h44.1
          subst hk11
          clear h hw hB1 hS hq hV1 HLf
          go_enter Tryz.func65,Tryz.ntmps65
          go_wp2_with (first
           | (go_at_call 81;refine (unhide HD).mono ?_;rintro e w1 ⟨rfl,hw1⟩;rw [hw1];clear hw1)
           | (go_at_call 126;refine (unhide HQ).mono ?_;rintro e w1 ⟨rfl,hw1⟩;rw [hw1];clear hw1)
           | (go_at_call 127;refine (unhide HFi).mono ?_;rintro e w1 ⟨rfl,hw1⟩;rw [hw1];clear hw1)
           | (go_at_call 128;refine (unhide HG).mono ?_;rintro e w1 ⟨rfl,hw1⟩;rw [hw1];clear hw1)
           | (go_at_call 129;refine (unhide HK).mono ?_;rintro e w1 ⟨rfl,hw1⟩;rw [hw1];clear hw1)
           | (go_at_call 87;refine (unhide HLf).mono ?_;rintro e w1 ⟨rfl,HB2⟩))
          go_ret2
          exact ⟨rfl,unhide HB⟩
         ·have hlf:T.left=0:=by
           by_cases e:T.left=0
           ·exact e
           ·exact absurd (by rw [← hq];simp [Tr.makeE,hx,hrs,hfit,refusesE,hg,hnm,h44,e]) hq0
          obtain rfl:q=43:=by rw [← hq];simp [Tr.makeE,hx,hrs,hfit,refusesE,hg,hnm,h44,hlf]
          rw [hlf] at HLf
          generalize T.links x=lk at *
          by_cases hk11:kd=1
          ·subst hk11
           have g16:¬ (16:Int)≤(lk:Int):=by omega
           clear h hw hB1 hS hq hV1
           go_enter Tryz.func65,Tryz.ntmps65
           go_wp2_with (first
            | (go_at_call 81;refine (unhide HD).mono ?_;rintro e w1 ⟨rfl,hw1⟩;rw [hw1];clear hw1)
            | (go_at_call 126;refine (unhide HQ).mono ?_;rintro e w1 ⟨rfl,hw1⟩;rw [hw1];clear hw1)
            | (go_at_call 127;refine (unhide HFi).mono ?_;rintro e w1 ⟨rfl,hw1⟩;rw [hw1];clear hw1)
            | (go_at_call 128;refine (unhide HG).mono ?_;rintro e w1 ⟨rfl,hw1⟩;rw [hw1];clear hw1)
            | (go_at_call 129;refine (unhide HK).mono ?_;rintro e w1 ⟨rfl,hw1⟩;rw [hw1];clear hw1)
            | (go_at_call 87;refine (unhide HLf).mono ?_;rintro e w1 ⟨rfl,HB2⟩))
           go_ret2
           exact ⟨rfl,(unhide HB).trans (HB2.mono hBs)⟩
          ·have hk12:(kd == 1)=false:=by simpa using hk11
           clear h hw hB1 hS hq hV1
           go_enter Tryz.func65,Tryz.ntmps65
           go_wp2_with (first
            | (go_at_call 81;refine (unhide HD).mono ?_;rintro e w1 ⟨rfl,hw1⟩;rw [hw1];clear hw1)
            | (go_at_call 126;refine (unhide HQ).mono ?_;rintro e w1 ⟨rfl,hw1⟩;rw [hw1];clear hw1)
            | (go_at_call 127;refine (unhide HFi).mono ?_;rintro e w1 ⟨rfl,hw1⟩;rw [hw1];clear hw1)
            | (go_at_call 128;refine (unhide HG).mono ?_;rintro e w1 ⟨rfl,hw1⟩;rw [hw1];clear hw1)
            | (go_at_call 129;refine (unhide HK).mono ?_;rintro e w1 ⟨rfl,hw1⟩;rw [hw1];clear hw1)
            | (go_at_call 87;refine (unhide HLf).mono ?_;rintro e w1 ⟨rfl,HB2⟩))
           go_ret2
           exact ⟨rfl,(unhide HB).trans (HB2.mono hBs)⟩
      ·obtain rfl:kd=3:=ht.resolve_left ht1
       have ht5:¬ text.toList=[]:=fun e=>by
        rw [ByteArray.toList_eq] at e
        exact ht1 (ByteArray.ext (Array.ext' e))
       have ht4:(text.toList == ([]:List UInt8))=false:=by rw [beq_eq_false_iff_ne];exact ht5
       have ht6:(text.toList != ([]:List UInt8))=true:=by rw [bne_iff_ne];exact ht5
       have ht7:text.toList.isEmpty=false:=by simpa using ht5
       have hV1:=(h.below hB1).hn dir x hxn
       cases hg:getE x.ins s with
       | some z =>
        obtain rfl:q=35:=by rw [← hq];simp [Tr.makeE,hx,hrs,hfit,refusesE,hg]
        have HFi:=hide (find_any hV1.1 hV1.2 (hw.k.srt dir x hxn) (by omega) s (pos x.ins s:Int) (by rw [idx,hg]))
        generalize pos x.ins s=ps at *
        have g0:(0:Int)≤(ps:Int):=by omega
        clear h hw hB1 hS hq hV1
        go_enter Tryz.func65,Tryz.ntmps65
        go_wp2_with (first
         | (go_at_call 81;refine (unhide HD).mono ?_;rintro e w1 ⟨rfl,hw1⟩;rw [hw1];clear hw1)
         | (go_at_call 126;refine (unhide HQ).mono ?_;rintro e w1 ⟨rfl,hw1⟩;rw [hw1];clear hw1)
         | (go_at_call 127;refine (unhide HFi).mono ?_;rintro e w1 ⟨rfl,hw1⟩;rw [hw1];clear hw1)
         | (go_at_call 128;refine (unhide HG).mono ?_;rintro e w1 ⟨rfl,hw1⟩;rw [hw1];clear hw1)
         | (go_at_call 129;refine (unhide HK).mono ?_;rintro e w1 ⟨rfl,hw1⟩;rw [hw1];clear hw1)
         | (go_at_call 87;refine (unhide HLf).mono ?_;rintro e w1 ⟨rfl,HB2⟩))
        go_ret2
        exact ⟨rfl,unhide HB⟩
       | none =>
        have HFi:=hide (find_any hV1.1 hV1.2 (hw.k.srt dir x hxn) (by omega) s (-1) (by rw [idx,hg]))
        by_cases hnm:x.names=0
        ·obtain rfl:q=32:=by rw [← hq];simp [Tr.makeE,hx,hrs,hfit,refusesE,hg,hnm]
         have HG:=hide (gone_any (h.below hB1) hw.k (by omega) hd hxn true (by simp [hnm]))
         clear h hw hB1 hS hq hV1
         go_enter Tryz.func65,Tryz.ntmps65
         go_wp2_with (first
          | (go_at_call 81;refine (unhide HD).mono ?_;rintro e w1 ⟨rfl,hw1⟩;rw [hw1];clear hw1)
          | (go_at_call 126;refine (unhide HQ).mono ?_;rintro e w1 ⟨rfl,hw1⟩;rw [hw1];clear hw1)
          | (go_at_call 127;refine (unhide HFi).mono ?_;rintro e w1 ⟨rfl,hw1⟩;rw [hw1];clear hw1)
          | (go_at_call 128;refine (unhide HG).mono ?_;rintro e w1 ⟨rfl,hw1⟩;rw [hw1];clear hw1)
          | (go_at_call 129;refine (unhide HK).mono ?_;rintro e w1 ⟨rfl,hw1⟩;rw [hw1];clear hw1)
          | (go_at_call 87;refine (unhide HLf).mono ?_;rintro e w1 ⟨rfl,HB2⟩))
         go_ret2
         exact ⟨rfl,unhide HB⟩
        ·have HG:=hide (gone_any (h.below hB1) hw.k (by omega) hd hxn false (by simp [hnm]))
         have HK:=hide (links_any (h.below hB1) hw.k (by omega) hd hxn (fun _=>hxk) (T.links x) rfl)
         have HLf:=hide (dLeft_any (h.below hB1) hw.k (by omega) (by have:=hw.k.mst;omega))
         have hl16:=h16 x hxn
         have hBs:=hB1.size
         by_cases h44:(3:Int)=1∧T.links x=16
         ·exact absurd h44.1 (by decide)
         ·have hlf:T.left=0:=by
           by_cases e:T.left=0
           ·exact e
           ·exact absurd (by rw [← hq];simp [Tr.makeE,hx,hrs,hfit,refusesE,hg,hnm,e]) hq0
          obtain rfl:q=43:=by rw [← hq];simp [Tr.makeE,hx,hrs,hfit,refusesE,hg,hnm,hlf]
          rw [hlf] at HLf
          generalize T.links x=lk at *
          clear h hw hB1 hS hq hV1
          go_enter Tryz.func65,Tryz.ntmps65
          go_wp2_with (first
           | (go_at_call 81;refine (unhide HD).mono ?_;rintro e w1 ⟨rfl,hw1⟩;rw [hw1];clear hw1)
           | (go_at_call 126;refine (unhide HQ).mono ?_;rintro e w1 ⟨rfl,hw1⟩;rw [hw1];clear hw1)
           | (go_at_call 127;refine (unhide HFi).mono ?_;rintro e w1 ⟨rfl,hw1⟩;rw [hw1];clear hw1)
           | (go_at_call 128;refine (unhide HG).mono ?_;rintro e w1 ⟨rfl,hw1⟩;rw [hw1];clear hw1)
           | (go_at_call 129;refine (unhide HK).mono ?_;rintro e w1 ⟨rfl,hw1⟩;rw [hw1];clear hw1)
           | (go_at_call 87;refine (unhide HLf).mono ?_;rintro e w1 ⟨rfl,HB2⟩))
          go_ret2
          exact ⟨rfl,(unhide HB).trans (HB2.mono hBs)⟩
     ·obtain rfl:q=1:=by
       rw [← hq]
       have:fitsB kd text=false:=by
        unfold fitsB
        rw [if_pos (by omega)]
        simpa using fun e=>ht (.inl e)
       simp [Tr.makeE,hx,hrs,this]
      have ht1:¬ text=⟨#[]⟩:=fun e=>ht (.inl e)
      have ht2:¬ kd=3:=fun e=>ht (.inr e)
      have ht3:(kd != 3)=true:=by simpa using ht2
      have ht5:¬ text.toList=[]:=fun e=>by
       rw [ByteArray.toList_eq] at e
       exact ht1 (ByteArray.ext (Array.ext' e))
      have ht4:(text.toList == ([]:List UInt8))=false:=by rw [beq_eq_false_iff_ne];exact ht5
      have ht6:(text.toList != ([]:List UInt8))=true:=by rw [bne_iff_ne];exact ht5
      have ht7:text.toList.isEmpty=false:=by simpa using ht5
      clear h hw hB1 hS hq
      go_enter Tryz.func65,Tryz.ntmps65
      go_wp2_with (first
       | (go_at_call 81;refine (unhide HD).mono ?_;rintro e w1 ⟨rfl,hw1⟩;rw [hw1];clear hw1)
       | (go_at_call 126;refine (unhide HQ).mono ?_;rintro e w1 ⟨rfl,hw1⟩;rw [hw1];clear hw1)
       | (go_at_call 127;refine (unhide HFi).mono ?_;rintro e w1 ⟨rfl,hw1⟩;rw [hw1];clear hw1)
       | (go_at_call 128;refine (unhide HG).mono ?_;rintro e w1 ⟨rfl,hw1⟩;rw [hw1];clear hw1)
       | (go_at_call 129;refine (unhide HK).mono ?_;rintro e w1 ⟨rfl,hw1⟩;rw [hw1];clear hw1)
       | (go_at_call 87;refine (unhide HLf).mono ?_;rintro e w1 ⟨rfl,HB2⟩))
      go_ret2
      exact ⟨rfl,unhide HB⟩
end
open Go.RowKit Go.Maps
attribute [local go_sem ↓] Go.wp_at_zero Go.wp_at_succ
theorem infoPR:(Tryz.prog.info? 136).map (fun i=>(i.zero,i.size,i.bytes))=some (some (.pointer none),1,8):=by kernel_rfl
theorem dNew_any (nodes blocks:Nat) (hn:1≤nodes∧nodes≤64) (hb:blocks≤256) (w:World) :
  Calls Tryz.prog 17 #[I (nodes:Int),I (blocks:Int)] w fun e w'=>∃ r,e=.returned (.tuple #[P0 r,I 0])∧Dq w.heap.size blocks w' r (Tr.new nodes blocks)∧Below w.heap.size w w':=by
 have HP:=hide (fun w=>Rb.rnew_any blocks blocks w)
 have k1:¬ ((nodes:Int) < 1):=by omega
 have k2:¬ ((64:Int) < (nodes:Int)):=by omega
 have k3:¬ ((blocks:Int) < 0):=by omega
 have k4:¬ ((256:Int) < (blocks:Int)):=by omega
 go_enter Tryz.func17,Tryz.ntmps17
 go_wp2_with fail
 refine (unhide HP w).mono ?_
 rintro e w1 ⟨rfl,hq,hbl⟩
 obtain ⟨A,hA,hAs,hA1,hAB⟩:∃ A,w1.alloc (.cells #[I (nodes:Int),P0 w.heap.size,.slice none 0 0] 135)=A∧A.heap.size=w1.heap.size + 1∧A.heap[w1.heap.size]?=some (.cells #[I (nodes:Int),P0 w.heap.size,.slice none 0 0] 135)∧Below w1.heap.size w1 A:=⟨_,rfl,by simp,putAll _ _ rfl,(Below.refl _ _).alloc (Nat.le_refl _) _⟩
 obtain ⟨D,hD,hDs,hD1,hDB⟩:∃ D,A.alloc (.cells #[.int .i64 1,.int .i64 1,.int .i64 493,.int .i64 0,.int .i64 0,.int .i64 0,.int .i64 0,.string ⟨#[]⟩,.slice none 0 0,.int .i64 1,.int .i64 0,.int .i64 0,.int .i64 0] 139)=D∧D.heap.size=A.heap.size + 1∧D.heap[A.heap.size]?=some (.cells #[.int .i64 1,.int .i64 1,.int .i64 493,.int .i64 0,.int .i64 0,.int .i64 0,.int .i64 0,.string ⟨#[]⟩,.slice none 0 0,.int .i64 1,.int .i64 0,.int .i64 0,.int .i64 0] 139)∧Below A.heap.size A D:=⟨_,rfl,by simp,putAll _ _ rfl,(Below.refl _ _).alloc (Nat.le_refl _) _⟩
 obtain ⟨i0,hi,hz0,hz1,hz2⟩:=info_parts infoPR
 obtain ⟨v',X,hrun,own1,hgr,-,-⟩:=run_append_own_at (P:=Tryz.prog) (D.alloc (.cells #[P0 A.heap.size] 136)) w1.heap.size 133 133 136 i0 (.pointer none) 1 8 Tryz.underlying133 hi hz0 hz1 hz2 rfl (by decide) (.slice none 0 0) 0 [] (World.ownsRow_nil _ _ _ _) ⟨D.heap.size,0,none⟩ 1 1 [P0 A.heap.size] rfl (Nm.cell_one_new D _ _) (by intro u hu;simp at hu;subst hu;rfl) (by unfold maxLen;omega) (by omega) (by simp;omega)
 have hXB:Below D.heap.size D X:=((Below.refl _ D).alloc (Nat.le_refl _) _).trans ⟨hgr.os,hgr.tape,hgr.output,hgr.size,fun j hj=>hgr.block j (by simp;omega) (by simp [Value.ownBlock])⟩
 have hX1:X.heap[w1.heap.size]?=some (.cells #[I (nodes:Int),P0 w.heap.size,.slice none 0 0] 135):=((hXB.block _ (by omega)).trans (hDB.block _ (by omega))).trans hA1
 have x2:X.cell? ⟨w1.heap.size,2,none⟩=some (.slice none 0 0):=by rw [cell_of hX1];rfl
 have xf:X.frozen? ⟨w1.heap.size,2,none⟩=false:=frozen_of hX1 2
 have a2:A.cell? ⟨w1.heap.size,2,none⟩=some (.slice none 0 0):=by rw [cell_of hA1];rfl
 have HF:Hid (Dq w.heap.size blocks (X.setCell ⟨w1.heap.size,2,none⟩ v') w1.heap.size (Tr.new nodes blocks)∧Below w.heap.size w (X.setCell ⟨w1.heap.size,2,none⟩ v')):=by
  have hsz:=hbl.size
  have hB1:Below w1.heap.size w1 X:=(hAB.trans (hDB.mono (by omega))).trans (hXB.mono (by omega))
  have hset:∀ j,j≠w1.heap.size→(X.setCell ⟨w1.heap.size,2,none⟩ v').heap[j]?=X.heap[j]?:=fun j hj=>Below.heap_setCell _ _ _ _ hj
  have hBl:Below w1.heap.size w1 (X.setCell ⟨w1.heap.size,2,none⟩ v'):=hB1.setCell (p:=⟨w1.heap.size,2,none⟩) (Nat.le_refl _) _
  have hnd:∀ k x,(Tr.new nodes blocks).nd k=some x→k=1∧x=⟨1,493,0,0,1,0,1,[],0,⟨#[]⟩⟩:=fun k x hk=>by
   simp only [Tr.new] at hk
   split at hk
   ·cases hk
    exact ⟨by assumption,rfl⟩
   ·cases hk
  refine ⟨⟨w.heap.size,v',fun _=>A.heap.size,fun _=>.slice none 0 0,fun _=>1,⟨by rw [heap_set hX1];rfl,?_,fun k x hk=>?_,fun j k x y hj hk hjk=>absurd ((hnd j x hj).1.trans (hnd k y hk).1.symm) hjk,?_,⟨hsz,Nat.le_trans hsz hBl.size,fun k x _=>by omega⟩⟩,fun k x hk=>?_⟩,hbl.trans (hBl.mono hsz)⟩
  ·have e:dptrs (Tr.new nodes blocks) (fun _=>A.heap.size)=[P0 A.heap.size]:=rfl
   rw [e]
   refine own_base (own_keep (s:=1) (n:=1) own1 fun j cur hc=>hset j ?_) hsz
   rintro rfl
   rw [hX1] at hc
   simp at hc
  ·obtain ⟨rfl,rfl⟩:=hnd k x hk
   refine ⟨?_,World.ownsRow_nil _ _ _ _⟩
   rw [hset _ (by omega),hXB.block _ (by omega),hD1]
   rfl
  ·obtain ⟨L,fb,bv,hp⟩:=hq
   exact Rb.Rq.mono ⟨L,fb,bv,hp.keep hBl.size fun b cs ty f e _=>hBl.block b (lt_of_heap e)⟩ hBl.size (Nat.le_refl _)
  ·obtain ⟨rfl,-⟩:=hnd k x (Tr.dir_some.1 hk).1
   rfl
 obtain ⟨a',c',hv'⟩:=own_form own1
 subst hv'
 have HA:=hide hAs
 clear hq hbl hAs hA1 hAB hDs hD1 hDB own1 hgr hXB hX1
 go_wp2_with (at_builtin;refine wpList_append_eq rfl _ _ 133 rfl 133 rfl _ _ rfl rfl _ _ hrun ?_)
 go_ret2
 exact ⟨_,rfl,unhide HF⟩
open Go.RowKit Go.Maps
section
variable {lo N:Nat} {W W':World} {r:Nat} {T:Tr} {p:Nat} {Lv:Value} {nb:Int→Nat} {ev:Int→Value} {uv:Int→Int} {B:Nat}
def Tr.more (T:Tr) (x:Nd):Tr:={ T with made:=T.made + 1,nd:=fun k=>if k=(T.made:Int) + 1 then some x else T.nd k }
theorem DtI.more (h:DtI lo N W r T p Lv nb ev uv) (hw:Wk B T) {x:Nd} {c:Nat} {u:Int} {cv:Value} (hc:W.heap[c]?=some (.cells (dnC ((T.made:Int) + 1) x u cv) 139)) (hcl:lo≤c) (hcn:∀ k y,T.nd k=some y→nb k≠c) (hcv:Dr lo W cv x.ins)
  {v':Value} {X:World} {o:Obj} (own1:X.ownsRow lo 136 1 v' (T.made + 1) (dptrs T nb ++ [P0 c])) (hgr:(W.alloc o).grownBy X Lv.ownBlock) :
  DtI lo N (X.setCell ⟨r,2,none⟩ v') r (Tr.more T x) p v' (fun k=>if k=(T.made:Int) + 1 then c else nb k) (fun k=>if k=(T.made:Int) + 1 then cv else ev k) (fun k=>if k=(T.made:Int) + 1 then u else uv k)∧Rx lo W (X.setCell ⟨r,2,none⟩ v'):=by
 have hLb:∀ g,Lv.ownBlock=some g→lo≤g∧∃ cur,W.heap[g]?=some (.cells cur 136):=fun g hg=>Rb.own_blk h.hL hg
 have hsz:W.heap.size≤X.heap.size:=by have:=hgr.size;simp at this;omega
 have hX:∀ (b:Nat) (cs:Array Value) (t:TypeId) (f:Nat × Nat),W.heap[b]?=some (.cells cs t f)→t≠136→X.heap[b]?=W.heap[b]?:=fun b cs t f e ht=>by
  have hb:=lt_of_heap e
  rw [hgr.block b (by simp;omega) (fun e2=>by
   obtain ⟨-,cur,e3⟩:=hLb b e2.symm
   rw [e] at e3
   cases e3
   exact ht rfl),Below.heap_alloc _ _ _ hb]
 have hS:∀ (b:Nat) (cs:Array Value) (t:TypeId) (f:Nat × Nat),W.heap[b]?=some (.cells cs t f)→t≠136→t≠135→(X.setCell ⟨r,2,none⟩ v').heap[b]?=W.heap[b]?:=fun b cs t f e ht ht2=>by
  rw [Below.heap_setCell _ _ _ _ (show b≠r by
   rintro rfl
   rw [h.ht] at e
   cases e
   exact ht2 rfl)]
  exact hX b cs t f e ht
 have hrX:=(hX _ _ _ _ h.ht (by decide)).trans h.ht
 have hsz2:W.heap.size≤(X.setCell ⟨r,2,none⟩ v').heap.size:=by simpa [World.setCell] using hsz
 have hkey:∀ k y,T.nd k=some y→k≠(T.made:Int) + 1:=fun k y hk=>by have:=hw.key k y hk;omega
 refine ⟨⟨by rw [heap_set hrX];rfl,?_,fun k y hk=>?_,fun j k y z hj hk hjk=>?_,?_,⟨h.bd.1,Nat.le_trans h.bd.2.1 hsz2,fun k y hk=>?_⟩⟩,?_⟩
 ·have e:dptrs (Tr.more T x) (fun k=>if k=(T.made:Int) + 1 then c else nb k)=dptrs T nb ++ [P0 c]:=by
   unfold dptrs
   show (List.range (T.made + 1)).map _=_
   rw [List.range_succ,List.map_append]
   congr 1
   ·refine List.map_congr_left fun i hi=>?_
    have hi2:=List.mem_range.1 hi
    have ne:¬ (i:Int) + 1=(T.made:Int) + 1:=by omega
    simp [ptrV,Tr.more,ne]
   ·simp [ptrV,Tr.more]
  rw [e]
  refine own_keep own1 fun b cur e2=>Below.heap_setCell _ _ _ _ ?_
  rintro rfl
  rw [hrX] at e2
  simp at e2
 ·simp only [Tr.more] at hk
  by_cases e:k=(T.made:Int) + 1
  ·rw [if_pos e] at hk
   cases hk
   simp only [if_pos e]
   subst e
   exact ⟨(hS _ _ _ _ hc (by decide) (by decide)).trans hc,hcv.keep fun b cur e2=>hS _ _ _ _ e2 (by decide) (by decide)⟩
  ·rw [if_neg e] at hk
   simp only [if_neg e]
   obtain ⟨g1,g2⟩:=h.hn k y hk
   exact ⟨(hS _ _ _ _ g1 (by decide) (by decide)).trans g1,g2.keep fun b cur e2=>hS _ _ _ _ e2 (by decide) (by decide)⟩
 ·simp only [Tr.more] at hj hk
  by_cases e:j=(T.made:Int) + 1
  ·have e2:¬ k=(T.made:Int) + 1:=fun e2=>hjk (e.trans e2.symm)
   rw [if_neg e2] at hk
   simp only [if_pos e,if_neg e2]
   exact fun e3=>hcn k z hk e3.symm
  ·rw [if_neg e] at hj
   simp only [if_neg e]
   by_cases e2:k=(T.made:Int) + 1
   ·simp only [if_pos e2]
    exact hcn j y hj
   ·rw [if_neg e2] at hk
    simp only [if_neg e2]
    exact h.dn j k y z hj hk hjk
 ·obtain ⟨L,fb,bv,hp⟩:=h.pl
  refine Rb.Rq.mono ⟨L,fb,bv,hp.keep hsz2 fun b cs t f e ht=>hS b cs t f e ?_ ?_⟩ hsz2 (Nat.le_refl _) <;> (rcases ht with rfl | rfl | rfl | rfl <;> decide)
 ·simp only [Tr.more] at hk
  by_cases e:k=(T.made:Int) + 1
  ·simp only [if_pos e];exact hcl
  ·rw [if_neg e] at hk
   simp only [if_neg e]
   exact h.bd.2.2 k y hk
 ·refine ⟨⟨hgr.os,hgr.tape,hgr.output,hsz2,fun b hb=>?_⟩,fun b cs t f e ht=>hS b cs t f e (fun e2=>ht (by simp [rty,e2])) (fun e2=>ht (by simp [rty,e2])),fun b es k e=>?_⟩
  ·have hb2:b < W.heap.size:=Nat.lt_of_lt_of_le hb h.bd.2.1
   rw [Below.heap_setCell _ _ _ _ (show b≠r by have:=h.bd.1;omega),hgr.block b (by simp;omega) (fun e2=>by have:=(hLb b e2.symm).1;omega),Below.heap_alloc _ _ _ hb2]
  ·have hb2:=lt_of_heap e
   rw [Below.heap_setCell _ _ _ _ (show b≠r by rintro rfl;rw [h.ht] at e;cases e),hgr.block b (by simp;omega) (fun e2=>by
    obtain ⟨-,cur,e3⟩:=hLb b e2.symm
    rw [e] at e3
    cases e3),Below.heap_alloc _ _ _ hb2]
end
end Go.Proofs.YtlngeaacjbdmhaaGreat.Rf
