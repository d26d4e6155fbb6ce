/-
 The document's walker in its block;the contract of dotdot.
-/
import Derived.Test.YtlngeaacjbdmhaaGreatPp26
import Derived.Test.YtlngeaacjbdmhaaGreatPp24
import Derived.Test.YtlngeaacjbdmhaaGreatPp21
set_option maxRecDepth 100000
set_option maxHeartbeats 1000000
namespace Go.Proofs.YtlngeaacjbdmhaaGreat.Wl
open Go.RowKit
attribute [local go_sem ↓] Go.wp_at_zero Go.wp_at_succ
theorem one_at {es:Mt.Ents} (h:es.Pairwise fun p q=>¬ (p.am=q.am∧p.an=q.an)) {p q:Mt.Ld} (hp:p ∈ es) (hq:q ∈ es) (h1:p.am=q.am) (h2:p.an=q.an):p=q:=by
 induction es with
 | nil=>cases hp
 | cons x l ih =>
  obtain ⟨h3,h4⟩:=List.pairwise_cons.1 h
  rcases List.mem_cons.1 hp with e1 | p1
  ·rcases List.mem_cons.1 hq with e2 | q1
   ·rw [e1,e2]
   ·subst e1;exact absurd ⟨h1,h2⟩ (h3 q q1)
  ·rcases List.mem_cons.1 hq with e2 | q1
   ·subst e2;exact absurd ⟨h1.symm,h2.symm⟩ (h3 p p1)
   ·exact ih h4 p1 q1
theorem up_down {B:Int} {t:Mt.T} (h:Mt.Wf B t) {x y:Int} (hu:Mt.upIs t.es x y=true):Mt.down t.md t.es (Mt.upM t.es x y) (Mt.upN t.es x y)=Mt.down t.md t.es x y:=by
 have hu':=hu
 unfold Mt.upIs at hu
 simp at hu
 obtain ⟨h1,h2⟩:=hu
 obtain ⟨h3,h4⟩:=Mt.fst_mem h1
 simp only [Mt.isN,decide_eq_true_eq] at h4
 have e1:Mt.upM t.es x y=(Mt.fst t.es (Mt.isN x)).am:=by rw [Mt.upM,if_pos hu']
 have e2:Mt.upN t.es x y=(Mt.fst t.es (Mt.isN x)).an:=by rw [Mt.upN,if_pos hu']
 rw [e1,e2]
 generalize Mt.fst t.es (Mt.isN x)=p at *
 have ha:Mt.any t.es (Mt.isAt p.am p.an)=true:=by
  cases ha:Mt.any t.es (Mt.isAt p.am p.an) with
  | true=>rfl
  | false=>have:=Mt.any_false.1 ha p h3;simp [Mt.isAt] at this
 obtain ⟨h5,h6⟩:=Mt.fst_mem ha
 simp only [Mt.isAt,decide_eq_true_eq] at h6
 have e:=one_at h.one h5 h3 h6.1 h6.2
 rw [Mt.down_step h.eld ha,e,h4,h2]
def rwC (E:En) (r R:Nat) (am an:Int) (lf:Value) (slash:Bool) (fol s:Nat) (dm dn:Int) (last:Bytes):Array Value:=#[P0 r,P0 (R + 1),I E.rm,I E.rn,I E.cu,I E.cg,I am,I an,lf,.bool slash,.bool E.follow,I (fol:Int),I (s:Int),I dm,I dn,.string (bs last),I 0,I 0,.bool false,.bool false]
def Rn (W:World) (b r R:Nat) (E:En) (am an:Int) (lf:Value) (slash:Bool) (fol s:Nat) (dm dn:Int) (last:Bytes):Prop:=W.heap[b]?=some (.cells (rwC E r R am an lf slash fol s dm dn last) 176)
section
variable {lo R:Nat} {W W':World} {r b:Nat} {E:En} {rs:List Mt.Rm} {am an:Int} {lf:Value} {slash:Bool} {fol s:Nat} {dm dn:Int} {last:Bytes}
theorem Rn.below (h:Rn W b r R E am an lf slash fol s dm dn last) (g:Below W.heap.size W W'):Rn W' b r R E am an lf slash fol s dm dn last:=(g.block b (lt_of_heap h)).trans h
theorem Rn.lt (h:Rn W b r R E am an lf slash fol s dm dn last):b < W.heap.size:=lt_of_heap h
theorem Rn.c1 (h:Rn W b r R E am an lf slash fol s dm dn last):W.cell? ⟨b,0,none⟩=some (P0 r)∧W.cell? ⟨b,1,none⟩=some (P0 (R + 1))∧W.cell? ⟨b,2,none⟩=some (I E.rm)∧W.cell? ⟨b,3,none⟩=some (I E.rn)∧W.cell? ⟨b,4,none⟩=some (I E.cu)∧W.cell? ⟨b,5,none⟩=some (I E.cg)∧W.cell? ⟨b,6,none⟩=some (I am)∧W.cell? ⟨b,7,none⟩=some (I an)∧W.cell? ⟨b,8,none⟩=some lf∧W.cell? ⟨b,9,none⟩=some (.bool slash)∧∀ i,W.frozen? ⟨b,i,none⟩=false:=by
 refine ⟨?_,?_,?_,?_,?_,?_,?_,?_,?_,?_,frozen_of h⟩ <;> (rw [cell_of h];rfl)
theorem Rn.c2 (h:Rn W b r R E am an lf slash fol s dm dn last):W.cell? ⟨b,10,none⟩=some (.bool E.follow)∧W.cell? ⟨b,11,none⟩=some (I (fol:Int))∧W.cell? ⟨b,12,none⟩=some (I (s:Int))∧W.cell? ⟨b,13,none⟩=some (I dm)∧W.cell? ⟨b,14,none⟩=some (I dn)∧W.cell? ⟨b,15,none⟩=some (.string (bs last))∧W.cell? ⟨b,16,none⟩=some (I 0)∧W.cell? ⟨b,17,none⟩=some (I 0)∧W.cell? ⟨b,18,none⟩=some (.bool false)∧W.cell? ⟨b,19,none⟩=some (.bool false):=by
 refine ⟨?_,?_,?_,?_,?_,?_,?_,?_,?_,?_⟩ <;> (rw [cell_of h];rfl)
structure RJ (E:En) (W wr:World) (am an:Int) (P:Nat) (x y:Int):Prop where
 cp:wr.heap[P]?=some (.cells #[I x,I y] 50)
 be:Below W.heap.size W wr
 eq:up E.es x y=up E.es am an
 dn:E.down x y=(am,an)
 wf:(kl y).wf=true
 r:wr.heap[W.heap.size]?=some (.cells #[I 0,I 0] 50)
theorem two_dd (W:World) (am an:Int):∃ V,(W.alloc (.cells #[I 0,I 0] 50)).alloc (.cells #[I am,I an] 50)=V∧V.heap[W.heap.size]?=some (.cells #[I 0,I 0] 50)∧V.heap[W.heap.size + 1]?=some (.cells #[I am,I an] 50)∧Below W.heap.size W V∧V.heap.size=W.heap.size + 2:=by
 refine ⟨_,rfl,?_,?_,?_,by simp⟩
 ·rw [Below.heap_alloc _ _ _ (by simp)];exact heap_alloc_new W _
 ·have:=heap_alloc_new (W.alloc (.cells #[I 0,I 0] 50)) (.cells #[I am,I an] 50)
  rwa [show (W.alloc (.cells #[I 0,I 0] 50)).heap.size=W.heap.size + 1 by simp] at this
 ·exact ((Below.refl _ W).alloc (Nat.le_refl _) _).alloc (by simp) _
theorem rdd_root (hw:Rn W b r R E am an lf slash fol s dm dn last) (hr:am=E.rm∧an=E.rn) :
  Calls Tryz.prog 161 #[P0 b] W fun e w'=>e=.returned (.agg #[I am,I an])∧Below W.heap.size W w':=by
 obtain ⟨V,hV,g0,g1,hB,hs⟩:=two_dd W am an
 have hB0:Below W.heap.size W (W.alloc (.cells #[I 0,I 0] 50)):=(Below.refl _ W).alloc (Nat.le_refl _) _
 obtain ⟨-,-,-,-,-,-,u6,u7,-⟩:=(hw.below hB0).c1
 obtain ⟨-,-,v2,v3,-,-,v6,v7,-⟩:=(hw.below hB).c1
 rw [← hr.1] at v2
 rw [← hr.2] at v3
 have p0:V.cell? ⟨W.heap.size + 1,0,none⟩=some (I am):=by rw [cell_of g1];rfl
 have p1:V.cell? ⟨W.heap.size + 1,1,none⟩=some (I an):=by rw [cell_of g1];rfl
 have HH:=hide (⟨g0,g1,hB⟩:_∧_∧_)
 have hbl:=hw.lt
 have n1:b≠W.heap.size:=by omega
 have n2:b≠W.heap.size + 1:=by omega
 clear g0 g1 hB hw hr hB0 hs
 go_enter Tryz.func161,Tryz.ntmps161
 go_wp2_with fail
 go_quiet (fail)
 obtain ⟨g0,g1,hB⟩:=unhide HH
 obtain ⟨X1,X2,⟨x1,x2⟩,⟨y0,y1⟩,⟨f0,f1⟩,hX,-,hXB,-⟩:=ans2 (V:=V) (w3:=V.drewN nq) g0 (below_n V nq) (I am) (I an)
 have z0:X2.cell? ⟨W.heap.size,0,none⟩=some (I am):=by rw [cell_of hX];rfl
 have z1:X2.cell? ⟨W.heap.size,1,none⟩=some (I an):=by rw [cell_of hX];rfl
 have q0:(V.drewN nq).cell? ⟨W.heap.size + 1,0,none⟩=some (I am):=p0
 have q1:(V.drewN nq).cell? ⟨W.heap.size + 1,1,none⟩=some (I an):=p1
 have HX:=hide (hXB _ _ (below_dn hB nq) (Nat.le_refl _))
 clear hX hXB g0 g1 hB HH
 go_wp2_with fail
 refine bodyPost_ret (v:=.agg #[I am,I an]) (by simp [results,Tryz.results161,go_sem,z0,z1]) rfl ?_
 exact ⟨rfl,unhide HX⟩
theorem rdd_up (D:Rd lo R W r E rs) (hw:Rn W b r R E am an lf slash fol s dm dn last) (hn:(kl an).wf=true) (ha:Mt.any E.es (Mt.isAt am an)=false) (hr:¬ (am=E.rm∧an=E.rn)) (p q:Int) (hp:(E.down (up E.es am an).1 (E.T.up (up E.es am an).2)).1=p) (hq:(E.down (up E.es am an).1 (E.T.up (up E.es am an).2)).2=q) :
  Calls Tryz.prog 161 #[P0 b] W fun e w'=>e=.returned (.agg #[I p,I q])∧Below W.heap.size W w':=by
 obtain ⟨V,hV,g0,g1,hB,hs⟩:=two_dd W am an
 have hB0:Below W.heap.size W (W.alloc (.cells #[I 0,I 0] 50)):=(Below.refl _ W).alloc (Nat.le_refl _) _
 obtain ⟨-,-,-,-,-,-,u6,u7,-⟩:=(hw.below hB0).c1
 obtain ⟨-,-,v2,v3,-,-,v6,v7,-⟩:=(hw.below hB).c1
 have p0:V.cell? ⟨W.heap.size + 1,0,none⟩=some (I am):=by rw [cell_of g1];rfl
 have p1:V.cell? ⟨W.heap.size + 1,1,none⟩=some (I an):=by rw [cell_of g1];rfl
 have hbl:=hw.lt
 have n1:b≠W.heap.size:=by omega
 have n2:b≠W.heap.size + 1:=by omega
 have HD:=hide D
 have Hw:=hide hw
 have HR:=hide hr
 have HU:=hide (fun x y p q f=>up_R (p:=p) (q:=q) (f:=f) D x y)
 have J0:=hide (show RJ E W V am an (W.heap.size + 1) am an from ⟨g1,hB,rfl,Mt.down_stop ha,hn,g0⟩)
 clear g0 g1 hB hw hB0 hs D ha
 go_enter Tryz.func161,Tryz.ntmps161
 go_upto_region 2 with fail
 go_cut [15] from 10 to 14 (fun s15 wc=>s15=.bool false∧∃ k,wc=V.drewN k)
 case first =>
  by_cases h1:am=E.rm
  ·have h2:¬ an=E.rn:=fun h=>hr ⟨h1,h⟩
   rw [← h1] at v2
   clear hr h1
   go_quiet (fail)
   go_wp2_with fail
   go_meet
   case rel=>exact ⟨rfl,_,rfl⟩
  ·clear hr
   go_quiet (fail)
   go_wp2_with fail
   go_meet
   case rel=>exact ⟨rfl,_,rfl⟩
 case rest =>
  obtain ⟨rfl,k,rfl⟩:=hcut
  have J1:=hide (show RJ E W (V.drewN k) am an (W.heap.size + 1) am an from ⟨(unhide J0).cp,below_dn (unhide J0).be k,(unhide J0).eq,(unhide J0).dn,(unhide J0).wf,(unhide J0).r⟩)
  clear J0 u6 u7 v2 v3 v6 v7 p0 p1 hV hr
  generalize V.drewN k=V1 at *
  clear V
  go_wp2_with fail
  go_loopw [] (fun wr=>∃ x y,Hid (RJ E W wr am an (W.heap.size + 1) x y)) (fun wr=>upK E.es (intAt wr (W.heap.size + 1)))
  case atStart=>exact ⟨am,an,J1⟩
  case round =>
   obtain ⟨x,y,J⟩:=hrel
   clear J1
   obtain ⟨jp,jb,je,jd,jw,jr⟩:=unhide J
   obtain ⟨w0,w1,w2,w3',-⟩:=((unhide Hw).below jb).c1
   have p0:wr.cell? ⟨W.heap.size + 1,0,none⟩=some (I x):=by rw [cell_of jp];rfl
   have p1:wr.cell? ⟨W.heap.size + 1,1,none⟩=some (I y):=by rw [cell_of jp];rfl
   have hlp:=lt_of_heap jp
   have hbr:b < wr.heap.size:=by omega
   have nb3:b≠wr.heap.size:=by omega
   have nb4:W.heap.size + 1≠wr.heap.size:=by omega
   go_upto_region 4 with fail
   go_cut [4,5] from 17 to 25 (fun s4 s5 wc=>∃ u,s4=P0 u∧s5=.bool (Mt.upIs E.es x y)∧Hid (Below wr.heap.size wr wc∧wc.heap[u]?=some (.cells #[I (Mt.upM E.es x y),I (Mt.upN E.es x y)] 50)∧wr.heap.size≤u))
   case first =>
    obtain ⟨x',hx⟩:∃ x',Mt.upM E.es x y=x':=⟨_,rfl⟩
    obtain ⟨y',hy⟩:∃ y',Mt.upN E.es x y=y':=⟨_,rfl⟩
    obtain ⟨f,hf⟩:∃ f,Mt.upIs E.es x y=f:=⟨_,rfl⟩
    obtain ⟨X,hX,hBX,gX,hlX⟩:=two_ahead wr
    have H1:=hide (unhide HU x y x' y' f hx hy hf X (jb.trans (hBX.mono jb.size)))
    have H2:=hide (unhide HU x y x' y' f hx hy hf wr.drew (below_drew jb))
    rw [hX] at H1 hBX gX hlX
    have HX:=hide (⟨hBX,gX,hlX⟩:_∧_∧_)
    have HXY:=hide (⟨hx,hy,hf⟩:_∧_∧_)
    clear hX hBX gX hlX X jp jb je jd jw jr hx hy hf HU HD Hw J hn hp hq HR w0 w2 w3'
    go_region_held3 (fun w'=>w'.cell? ⟨b,1,none⟩=some (P0 (R + 1))∧w'.cell? ⟨W.heap.size + 1,0,none⟩=some (I x)∧w'.cell? ⟨W.heap.size + 1,1,none⟩=some (I y)) (go_keep)
     (first
      | (go_at_call 239;refine (unhide H1).mono ?_;rintro e w3 ⟨rfl,HB3⟩;obtain ⟨hBX,gX,hlX⟩:=unhide HX;obtain ⟨X1,X2,⟨x1,x2⟩,⟨y0,y1⟩,⟨f0,f1⟩,hX2,hXk,hXB,hXs⟩:=ans2 gX (unhide HB3) (I x') (I y');have hB3V:=hBX.trans ((unhide HB3).mono (Nat.le_of_lt hlX));have q1:=cell_be w1 hB3V;have q2:=cell_be p0 hB3V;have q3:=cell_be p1 hB3V;have hB4V:=hXB _ _ hB3V (Nat.le_refl _);have s1:=cell_be w1 hB4V;have s2:=cell_be p0 hB4V;have s3:=cell_be p1 hB4V;have HE:=hide (⟨hB4V,hX2⟩:_∧_);clear hX2 hXk hXB hXs hB3V hB4V hBX gX hlX)
      | (go_at_call 239;refine (unhide H2).mono ?_;rintro e w3 ⟨rfl,HB3⟩;have hB3V:=(below_drew (Below.refl wr.heap.size wr)).trans (unhide HB3);have q1:=cell_be w1 hB3V;have q2:=cell_be p0 hB3V;have q3:=cell_be p1 hB3V;have HE:=hide hB3V;clear hB3V))
    ·rename_i hHeld
     have hBe:=(unhide HE).alloc (unhide HE).size (.cells #[I x',I y'] 50)
     have hgu:=heap_alloc_new w3 (.cells #[I x',I y'] 50)
     have hsu:=(unhide HE).size
     have HF:=hide (⟨hBe,hgu,hsu⟩:_∧_∧_)
     clear hHeld hBe hgu hsu q1 q2 q3 H1 H2
     go_wp2_with fail
     go_meet
     case rel =>
      obtain ⟨hBe,hgu,hsu⟩:=unhide HF
      obtain ⟨hx,hy,hf⟩:=unhide HXY
      refine ⟨w3.heap.size,rfl,by rw [hf],hide ⟨hBe,?_,hsu⟩⟩
      rw [hx,hy]
      exact hgu
    ·rename_i hHeld
     clear hHeld q1 q2 q3 H1 H2 x1 x2 y0 y1 f0 f1 s1 s2 s3
     go_wp2_with fail
     go_meet
     case rel =>
      obtain ⟨hBe,hgu⟩:=unhide HE
      obtain ⟨hx,hy,hf⟩:=unhide HXY
      refine ⟨wr.heap.size,rfl,by rw [hf],hide ⟨hBe,?_,Nat.le_refl _⟩⟩
      rw [hx,hy]
      exact hgu
   case rest =>
    obtain ⟨u,rfl,rfl,HK⟩:=hcut
    obtain ⟨W1,hW1⟩:∃ W1,W1=wc:=⟨_,rfl⟩
    rw [← hW1] at HK ⊢
    clear hW1
    obtain ⟨kB,ku,kle⟩:=unhide HK
    have jb1:Below W.heap.size W W1:=jb.trans (kB.mono jb.size)
    have jp1:=(kB.block _ hlp).trans jp
    have jr1:=(kB.block _ (by omega)).trans jr
    clear w0 w1 w2 w3' p0 p1 HK jr
    obtain ⟨w0,w1,w2,w3',-⟩:=((unhide Hw).below jb1).c1
    cases hf:Mt.upIs E.es x y with
    | true =>
     obtain ⟨x',hx'⟩:∃ x',x'=Mt.upM E.es x y:=⟨_,rfl⟩
     obtain ⟨y',hy'⟩:∃ y',y'=Mt.upN E.es x y:=⟨_,rfl⟩
     have hdd:E.down x' y'=(am,an):=by
      rw [← jd,hx',hy']
      exact up_down (unhide HD).mf hf
     have hm1:intAt wr (W.heap.size + 1)=x:=by unfold intAt;rw [cell_of jp];rfl
     have hless:=(up_less (unhide HD).mf.eld hf).2
     have hstep:up E.es x y=up E.es x' y':=by rw [hx',hy'];exact up_step (unhide HD).mf.eld hf
     rw [je] at hstep
     have hwf:=upN_wf (unhide HD).wf (x:=x) jw
     rw [← hx'] at hless
     rw [← hy'] at hwf
     rw [← hx',← hy'] at ku
     have u0:W1.cell? ⟨u,0,none⟩=some (I x'):=by rw [cell_of ku];rfl
     have u1:W1.cell? ⟨u,1,none⟩=some (I y'):=by rw [cell_of ku];rfl
     have H1:=hide (down_R (unhide HD) x' y' (p:=am) (q:=an) (by rw [hdd]) (by rw [hdd]) W1.drew (below_drew jb1))
     have HM:=hide (⟨jb1,jp1,jr1,ku,hm1,hless,hstep,hwf,hdd⟩:_∧_∧_∧_∧_∧_∧_∧_∧_)
     have hu1:W.heap.size + 1 < u:=by omega
     have hlu:=lt_of_heap ku
     clear jp jb je jd jw jb1 jp1 jr1 ku hm1 hless hstep hwf hdd hx' hy' J HU hn hp hq kB w0
     clear hf
     go_upto_region 6 with fail
     go_cut [38] from 28 to 37 (fun s38 wc=>s38=.bool false∧Below W1.heap.size W1 wc)
     case first =>
      have hr:=unhide HR
      by_cases h1:am=E.rm
      ·have h2:¬ an=E.rn:=fun h=>hr ⟨h1,h⟩
       rw [← h1] at w2
       clear hr h1
       go_region_held3 (fun w'=>w'.cell? ⟨b,1,none⟩=some (P0 (R + 1))∧w'.cell? ⟨b,2,none⟩=some (I am)∧w'.cell? ⟨b,3,none⟩=some (I E.rn)∧w'.cell? ⟨u,0,none⟩=some (I x')∧w'.cell? ⟨u,1,none⟩=some (I y')) (go_keep)
        ((go_at_call 103;refine (unhide H1).mono ?_;rintro e w4 ⟨rfl,HB4⟩;have hB4:=(below_drew (Below.refl W1.heap.size W1)).trans (unhide HB4);have q1:=cell_be w1 hB4;have q2:=cell_be w2 hB4;have q3:=cell_be w3' hB4;have q4:=cell_be u0 hB4;have q5:=cell_be u1 hB4;have HE:=hide hB4;clear hB4))
       all_goals
        go_wp2_with fail
        go_meet
        case rel=>exact ⟨rfl,unhide HE⟩
      ·clear hr
       go_region_held3 (fun w'=>w'.cell? ⟨b,1,none⟩=some (P0 (R + 1))∧w'.cell? ⟨b,2,none⟩=some (I E.rm)∧w'.cell? ⟨b,3,none⟩=some (I E.rn)∧w'.cell? ⟨u,0,none⟩=some (I x')∧w'.cell? ⟨u,1,none⟩=some (I y')) (go_keep)
        ((go_at_call 103;refine (unhide H1).mono ?_;rintro e w4 ⟨rfl,HB4⟩;have hB4:=(below_drew (Below.refl W1.heap.size W1)).trans (unhide HB4);have q1:=cell_be w1 hB4;have q2:=cell_be w2 hB4;have q3:=cell_be w3' hB4;have q4:=cell_be u0 hB4;have q5:=cell_be u1 hB4;have HE:=hide hB4;clear hB4))
       all_goals
        go_wp2_with fail
        go_meet
        case rel=>exact ⟨rfl,unhide HE⟩
     case rest =>
      obtain ⟨rfl,k2⟩:=hcut
      obtain ⟨W2,hW2⟩:∃ W2,W2=wc:=⟨_,rfl⟩
      rw [← hW2] at k2 ⊢
      clear hW2 u0 u1 w1 w2 w3' H1
      obtain ⟨jb1,jp1,jr1,ku,hm1,hless,hstep,hwf,hdd⟩:=unhide HM
      have ku2:=(k2.block u hlu).trans ku
      have u0:W2.cell? ⟨u,0,none⟩=some (I x'):=by rw [cell_of ku2];rfl
      have u1:W2.cell? ⟨u,1,none⟩=some (I y'):=by rw [cell_of ku2];rfl
      have hs1:=kle
      obtain ⟨X1,X2,⟨x1,x2⟩,⟨y0,y1⟩,⟨f0,f1⟩,hX2,hXk,hXB,hXs⟩:=ans2 (V:=W1) jp1 k2 (I x') (I y')
      have HY:=hide (⟨hX2,hXk,hXB⟩:_∧_∧_)
      have HK2:=hide k2
      have hs2:=jb1.size
      clear jb1 jp1 jr1 ku ku2 hm1 hless hstep hwf hdd hX2 hXk hXB hXs k2 HD Hw
      go_wp2_with fail
      obtain ⟨hX2,hXk,hXB⟩:=unhide HY
      obtain ⟨jb1,jp1,jr1,ku,hm1,hless,hstep,hwf,hdd⟩:=unhide HM
      refine ⟨⟨x',y',hide ⟨hX2,hXB _ _ (jb1.trans ((unhide HK2).mono jb1.size)) (by omega),hstep.symm,hdd,hwf,(hXk _ (by omega) (by have:=lt_of_heap jr1;omega)).trans jr1⟩⟩,?_⟩
      have hm2:intAt X2 (W.heap.size + 1)=x':=by unfold intAt;rw [cell_of hX2];rfl
      rw [hm1,hm2]
      exact hless
    | false =>
     have p0:W1.cell? ⟨W.heap.size + 1,0,none⟩=some (I x):=by rw [cell_of jp1];rfl
     have p1:W1.cell? ⟨W.heap.size + 1,1,none⟩=some (I y):=by rw [cell_of jp1];rfl
     have hlp1:=lt_of_heap jp1
     have hup:up E.es am an=(x,y):=by rw [← je,up_end hf]
     rw [hup] at hp hq
     obtain ⟨z,hz⟩:∃ z,E.T.up y=z:=⟨_,rfl⟩
     simp only [hz] at hp hq
     have H1:=hide (tup_R (unhide HD) jw hz W1.drew (below_drew jb1))
     have H2:=hide (fun V=>down_R (unhide HD) x z hp hq V)
     have HM:=hide (⟨jb1,jr1⟩:_∧_)
     have hbl2:b < W1.heap.size:=by have:=jb1.size;omega
     clear J jp jb je jd jw jb1 jp1 jr1 ku kle kB hup hz HU HD Hw hn hp hq HR w2 w3'
     go_wp2_with fail
     go_region_held3 (fun w'=>w'.cell? ⟨b,0,none⟩=some (P0 r)∧w'.cell? ⟨b,1,none⟩=some (P0 (R + 1))∧w'.cell? ⟨W.heap.size + 1,0,none⟩=some (I x)∧w'.cell? ⟨W.heap.size + 1,1,none⟩=some (I y)) (go_keep)
      (first
       | (go_at_call 90;refine (unhide H1).mono ?_;rintro e w3 ⟨rfl,HB3⟩;have q0:=cell_be (W:=W1.drew) w0 (unhide HB3);have q1:=cell_be (W:=W1.drew) w1 (unhide HB3);have q2:=cell_be (W:=W1.drew) p0 (unhide HB3);have q3:=cell_be (W:=W1.drew) p1 (unhide HB3);have HB5:=hide ((below_drew (Below.refl W1.heap.size W1)).trans (unhide HB3));have H3:=hide (unhide H2 w3 ((unhide HM).1.trans ((unhide HB5).mono (unhide HM).1.size))))
       | (go_at_call 103;refine (unhide H3).mono ?_;rintro e w4 ⟨rfl,HB4⟩;have hB6:=(unhide HB5).trans ((unhide HB4).mono (unhide HB5).size);have o0:=cell_be w0 hB6;have o1:=cell_be w1 hB6;have o2:=cell_be p0 hB6;have o3:=cell_be p1 hB6;obtain ⟨Y1,Y2,⟨i1,i2⟩,⟨k0,k1⟩,⟨l0,l1⟩,hY2,hYk,hYB,hYs⟩:=ans2 (unhide HM).2 hB6 (I p) (I q);have s0:Y2.cell? ⟨b,0,none⟩=some (P0 r):=cell_kp w0 (hYk b n1 hbl2);have s1:Y2.cell? ⟨b,1,none⟩=some (P0 (R + 1)):=cell_kp w1 (hYk b n1 hbl2);have s2:Y2.cell? ⟨W.heap.size + 1,0,none⟩=some (I x):=cell_kp p0 (hYk _ (by omega) hlp1);have s3:Y2.cell? ⟨W.heap.size + 1,1,none⟩=some (I y):=cell_kp p1 (hYk _ (by omega) hlp1);have HY:=hide (⟨hY2,hYB _ _ ((unhide HM).1.trans (hB6.mono (unhide HM).1.size)) (Nat.le_refl _)⟩:_∧_);clear hY2 hYk hYB hYs hB6))
     rename_i hHeld
     clear hHeld q0 q1 q2 q3 o0 o1 o2 o3 i1 i2 k0 k1 l0 l1 H1 H2 H3 w0 w1 p0 p1 s0 s1 s2 s3 HB3 HB4 HB5
     obtain ⟨hY2,hYB⟩:=unhide HY
     have z0:Y2.cell? ⟨W.heap.size,0,none⟩=some (I p):=by rw [cell_of hY2];rfl
     have z1:Y2.cell? ⟨W.heap.size,1,none⟩=some (I q):=by rw [cell_of hY2];rfl
     have HYB:=hide hYB
     clear hYB hY2 HY
     go_wp2_with fail
     refine bodyPost_ret (v:=.agg #[I p,I q]) (by simp [results,Tryz.results161,go_sem,z0,z1]) rfl ?_
     exact ⟨rfl,unhide HYB⟩
theorem rdd_any (D:Rd lo R W r E rs) (hw:Rn W b r R E am an lf slash fol s dm dn last) (hn:(kl an).wf=true) (ha:Mt.any E.es (Mt.isAt am an)=false) (x y:Int) (hx:(E.dots [46,46] am an).1=x) (hy:(E.dots [46,46] am an).2=y) :
  Calls Tryz.prog 161 #[P0 b] W fun e w'=>e=.returned (.agg #[I x,I y])∧Below W.heap.size W w':=by
 by_cases hr:am=E.rm∧an=E.rn
 ·have e:E.dots [46,46] am an=(am,an):=by rw [En.dots,if_pos (.inr hr)]
  rw [e] at hx hy
  obtain rfl:am=x:=hx
  obtain rfl:an=y:=hy
  exact rdd_root hw hr
 ·have e:E.dots [46,46] am an=E.down (up E.es am an).1 (E.T.up (up E.es am an).2):=by
   rw [En.dots,if_neg]
   rintro (h | h)
   ·simp at h
   ·exact hr h
  rw [e] at hx hy
  exact rdd_up D hw hn ha hr x y hx hy
end
attribute [local go_sem ↓] Go.wp_at_zero Go.wp_at_succ
def Ro (W:World) (b:Nat) (a:Option Addr) (q:List Bytes):Prop:=Nm.RowO W a q∧∀ x,a=some x→x.block≠b
section
variable {lo R:Nat} {W W0 W':World} {r b:Nat} {E:En} {rs:List Mt.Rm} {am an:Int} {lf:Value} {slash:Bool} {fol s:Nat} {dm dn:Int} {last:Bytes}
theorem Ro.below {a:Option Addr} {q:List Bytes} (h:Ro W b a q) (g:Below W.heap.size W W'):Ro W' b a q:=⟨h.1.below g,h.2⟩
theorem Ro.set {a:Option Addr} {q:List Bytes} (h:Ro W b a q) (i:Nat) (v:Value):Ro (W.setCell ⟨b,i,none⟩ v) b a q:=by
 refine ⟨fun k s hk=>?_,h.2⟩
 obtain ⟨pb,off,h1,h2,h3⟩:=h.1 k s hk
 refine ⟨pb,off,h1,by simpa using h2,?_⟩
 rw [← h3]
 exact World.cell?_of_block (Below.heap_setCell _ _ _ _ (show pb≠b from h.2 _ h1))
theorem Rn.turn (h:Rn W b r R E am an lf slash fol s dm dn last) (i:Nat) (v:Value) {am' an':Int} {lf':Value} {slash':Bool} {fol' s':Nat} {dm' dn':Int} {last':Bytes} (e:(rwC E r R am an lf slash fol s dm dn last).setIfInBounds i v=rwC E r R am' an' lf' slash' fol' s' dm' dn' last') :
  ∃ X,W.setCell ⟨b,i,none⟩ v=X∧Rn X b r R E am' an' lf' slash' fol' s' dm' dn' last'∧(∀ B u,Below B u W→B≤b→Below B u X)∧(∀ k,k≠b→X.heap[k]?=W.heap[k]?)∧X.heap.size=W.heap.size:=by
 refine ⟨_,rfl,?_,fun B u hu hb=>hu.setCell (p:=⟨b,i,none⟩) hb _,fun k hk=>Below.heap_setCell _ _ _ _ hk,by simp⟩
 unfold Rn
 rw [heap_set h,e]
theorem Rn.folded (h:Rn W b r R E am an lf slash fol s dm dn last):∃ X,W.setCell ⟨b,11,none⟩ (I ((fol:Int) + 1))=X∧Rn X b r R E am an lf slash (fol + 1) s dm dn last∧(∀ B u,Below B u W→B≤b→Below B u X)∧(∀ k,k≠b→X.heap[k]?=W.heap[k]?)∧X.heap.size=W.heap.size :=
 h.turn 11 _ (by unfold rwC;simp)
theorem rlink_40 (hw:Rn W b r R E am an lf slash 40 s dm dn last) (im jm:Int) (a:Option Addr) (n cap:Nat) :
  Calls Tryz.prog 162 #[P0 b,.agg #[I im,I jm],.slice a n cap] W fun e w'=>e=.returned (I 46)∧Below W.heap.size W w':=by
 obtain ⟨V,hV,g1,hB⟩:∃ V,W.alloc (.cells #[I im,I jm] 50)=V∧V.heap[W.heap.size]?=some (.cells #[I im,I jm] 50)∧Below W.heap.size W V:=⟨_,rfl,heap_alloc_new W _,(Below.refl _ W).alloc (Nat.le_refl _) _⟩
 obtain ⟨-,v11,-⟩:=(hw.below hB).c2
 have hbl:=hw.lt
 have n1:b≠W.heap.size:=by omega
 have HB:=hide hB
 clear g1 hB hw
 go_enter Tryz.func162,Tryz.ntmps162
 go_wp2_with fail
 go_ret
 exact ⟨rfl,unhide HB⟩
theorem rlink_no (D:Rd lo R W0 r E rs) (h0:W0.heap.size≤b) (g:Below W0.heap.size W0 W) (hw:Rn W b r R E am an lf slash fol s dm dn last) (hn:(kl an).wf=true) (hf:fol < 40) (im jm:Int) (a:Option Addr) (n cap:Nat) (rest:List Bytes) (hrn:rest.length=n) (hrow:Ro W b a rest) (hwt:Nm.wt rest≤10000) (text:Bytes) (ht:E.text an=text) (htl:text.length≤281474976710656) (x:Int) (hx:onE fol text slash rest=x) (hx0:¬ x=0) :
  Calls Tryz.prog 162 #[P0 b,.agg #[I im,I jm],.slice a n cap] W fun e w'=>e=.returned (I x)∧(∃ fol',Rn w' b r R E am an lf slash fol' s dm dn last)∧Below W0.heap.size W0 w':=by
 obtain ⟨V,hV,g1,hB⟩:∃ V,W.alloc (.cells #[I im,I jm] 50)=V∧V.heap[W.heap.size]?=some (.cells #[I im,I jm] 50)∧Below W.heap.size W V:=⟨_,rfl,heap_alloc_new W _,(Below.refl _ W).alloc (Nat.le_refl _) _⟩
 obtain ⟨-,v11,-⟩:=(hw.below hB).c2
 have vf:=(hw.below hB).c1.2.2.2.2.2.2.2.2.2.2 11
 obtain ⟨X,hX,hwX,hXB,hXk,hXs⟩:=(hw.below hB).folded
 have hBX:Below W0.heap.size W0 X:=hXB _ _ (g.trans (hB.mono g.size)) h0
 have hrX:Ro X b a rest:=hX ▸ (hrow.below hB).set 11 _
 obtain ⟨c0,-,-,-,-,-,c6,c7,-,c9,-⟩:=hwX.c1
 have HT:=hide (fun k=>text_R D (s:=bs text) (n:=an) hn (by rw [← ht];rfl) (X.drewN k) (below_dn hBX k))
 have hbl:=hw.lt
 have n1:b≠W.heap.size:=by omega
 have hf1:¬ (40:Int)≤(fol:Int):=by omega
 have hf2:(fol:Int) < 40:=by omega
 have hf3:(0:Int)≤(fol:Int):=by omega
 have HB:=hide (⟨hBX,hwX,hrX⟩:_∧_∧_)
 clear g1 hB hw hXB hXk hXs hBX hwX hrX D g hrow ht hn
 rw [onE,if_neg (by omega)] at hx
 cases text with
 | nil =>
  obtain rfl:32=x:=by simpa using hx
  go_enter Tryz.func162,Tryz.ntmps162
  go_wp2_with fail
  go_quiet ((go_at_call 91;exact Calls.quiet_of_same (unhide HT _)))
  go_wp2_with fail
  go_ret
  exact ⟨rfl,⟨fol + 1,(unhide HB).2.1⟩,below_dn (unhide HB).1 nq⟩
 | cons c l =>
  rw [if_neg (by simp)] at hx
  have HW:=hide (fun k=>Nm.rwr_any false slash rest n hrn a cap (X.drewN k) ((unhide HB).2.2.below (below_n X k)).1 (by omega))
  have hple:=Nm.wr_le false slash rest
  by_cases hlong:4096 < (c :: l).length + (Nm.pw false slash rest).length
  ·rw [if_pos hlong] at hx
   obtain rfl:45=x:=hx
   generalize Nm.pw false slash rest=pp at *
   have hpp:pp.length≤20000:=by omega
   have hl1:l.length≤281474976710656:=by simp at htl;omega
   have hlo:(4096:Int) < (l.length:Int) + 1 + (pp.length:Int):=by simp at hlong;omega
   clear hple hlong htl hwt
   go_enter Tryz.func162,Tryz.ntmps162
   go_wp2_with fail
   go_quiet ((go_at_call 91;exact Calls.quiet_of_same (unhide HT _)))
   have c9':(X.drewN nq).cell? ⟨b,9,none⟩=some (.bool slash):=c9
   have HW2:=hide (unhide HW nq)
   generalize hY:X.drewN nq=Y at *
   have HY:=hide hY
   clear hY HW HT c0 c6 c7 c9
   go_wp2_with fail
   refine (unhide HW2).mono ?_
   rintro e w3 ⟨rfl,hB3⟩
   have HB3:=hide hB3
   clear hB3 HW2
   go_wp2_with fail
   go_ret
   obtain ⟨k1,k2,-⟩:=unhide HB
   have hB3:=unhide HB3
   have e1:=unhide HY
   subst e1
   exact ⟨rfl,⟨fol + 1,(k2.below (below_n X nq)).below hB3⟩,(below_dn k1 nq).trans (hB3.mono (below_dn k1 nq).size)⟩
  ·rw [if_neg hlong] at hx
   have HRd:=hide (Nm.rread_any (c :: l))
   rw [hx] at HRd
   generalize Nm.pw false slash rest=pp at *
   have hpp:pp.length≤4096:=by omega
   have hl1:l.length≤4096:=by simp at hlong;omega
   have hlo:¬ (4096:Int) < (l.length:Int) + 1 + (pp.length:Int):=by simp at hlong;omega
   have hx1:(x != 0)=true:=by simpa using hx0
   clear hple hlong htl hwt hx
   generalize Nm.rt (c :: l)=ro at *
   generalize Nm.sl (c :: l)=st at *
   generalize Nm.ps (c :: l)=ps at *
   go_enter Tryz.func162,Tryz.ntmps162
   go_wp2_with fail
   go_quiet ((go_at_call 91;exact Calls.quiet_of_same (unhide HT _)))
   have c9':(X.drewN nq).cell? ⟨b,9,none⟩=some (.bool slash):=c9
   have HW2:=hide (unhide HW nq)
   generalize hY:X.drewN nq=Y at *
   have HY:=hide hY
   clear hY HW HT c0 c6 c7 c9
   go_wp2_with fail
   refine (unhide HW2).mono ?_
   rintro e w3 ⟨rfl,hB3⟩
   have HB3:=hide hB3
   clear hB3 HW2
   go_wp2_with fail
   refine (unhide HRd w3).mono ?_
   rintro e w4 ⟨pa,vc,rfl,own,hB4⟩
   have HB4:=hide (hB4.alloc hB4.size (.cells #[.bool ro,.bool st,.slice pa ps.length vc] 171))
   clear own hB4 HRd
   go_wp2_with fail
   go_ret
   obtain ⟨k1,k2,-⟩:=unhide HB
   have hB3:=unhide HB3
   have hB4:=unhide HB4
   have e1:=unhide HY
   subst e1
   have k3:=(k2.below (below_n X nq)).below hB3
   have k4:=(below_dn k1 nq).trans (hB3.mono (below_dn k1 nq).size)
   exact ⟨rfl,⟨fol + 1,k3.below hB4⟩,k4.trans (hB4.mono k4.size)⟩
end
attribute [local go_sem ↓] Go.wp_at_zero Go.wp_at_succ
theorem rread_own (l:List UInt8) (w:World):Calls Tryz.prog 102 #[Nm.S l] w fun e w'=>∃ v,e=.returned (.tuple #[.agg #[.bool (Nm.rt l),.bool (Nm.sl l),v],.int .i64 (Nm.err l)])∧w'.ownsRow w.heap.size 9 1 v (Nm.ps l).length (Nm.strs (Nm.ps l))∧Below w.heap.size w w':=by
 by_cases h1:l=[]
 ·refine (Nm.rread_first l w 32 (.inl ⟨h1,rfl⟩)).mono ?_
  rintro e w' ⟨rfl,hB⟩
  subst h1
  exact ⟨_,rfl,World.ownsRow_nil _ _ _ _,hB⟩
 ·by_cases h2:4096 < l.length
  ·have he:=Nm.long_err h2
   have e1:Nm.rt l=false:=by simp [Nm.rt,he]
   have e2:Nm.sl l=false:=by simp [Nm.sl,he]
   have e3:Nm.ps l=[]:=by simp [Nm.ps,he]
   rw [e1,e2,e3,he]
   refine (Nm.rread_first l w 45 (.inr ⟨h1,h2,rfl⟩)).mono ?_
   rintro e w' ⟨rfl,hB⟩
   exact ⟨_,rfl,World.ownsRow_nil _ _ _ _,hB⟩
  ·exact Nm.rread_rest l w h1 (by omega)
section
variable {W:World}
theorem join_run {lo:Nat} {v:Value} {ps rest:List Bytes} (hO:W.ownsRow lo 9 1 v ps.length (Nm.strs ps)) (hlo:lo≤W.heap.size) (hl:ps.length≤10000) (hr:rest.length≤10000) {pb po cap:Nat} (hrow:Nm.RowO W (some ⟨pb,po,none⟩) rest) :
  ∃ v1 W1,(Builtin.append_ #[55,55] 55 #[v,.slice (some ⟨pb,po,none⟩) rest.length cap]).run Tryz.prog W=.ok v1 W1∧W1.ownsRow lo 9 1 v1 (ps ++ rest).length (Nm.strs (ps ++ rest))∧(∀ u,Below lo u W→Below lo u W1)∧W.heap.size≤W1.heap.size∧(∀ (k:Nat) (cs:Array Value) (t:TypeId),W.heap[k]?=some (.cells cs t)→t≠9→W1.heap[k]?=some (.cells cs t)):=by
 obtain ⟨i0,hi,hz0,hz1,hz2⟩:=info_parts Nm.info9
 obtain ⟨v1,W1,r1,own1,gr1,-,-⟩:=run_append_own_at (P:=Tryz.prog) W lo 55 55 9 i0 (.string ByteArray.empty) 1 16 Tryz.underlying55 hi hz0 hz1 hz2 rfl (by decide) v _ _ hO ⟨pb,po,none⟩ rest.length cap (Nm.strs rest)
  (by simp [Nm.strs])
  (by
   intro j u hj
   obtain ⟨q,hq,rfl⟩:∃ q,rest[j]?=some q∧Nm.S q=u:=by
    simp only [Nm.strs,List.getElem?_map,Option.map_eq_some_iff] at hj
    exact hj
   obtain ⟨b',off',e1,hlt,hc⟩:=hrow j q hq
   simp only [Option.some.injEq,Addr.mk.injEq] at e1
   obtain ⟨rfl,rfl,-⟩:=e1
   rw [show (⟨pb,po,none⟩:Addr).add j=⟨pb,po + j,none⟩ by unfold Addr.add;split <;> simp_all]
   exact hc)
  (by intro u hu;simp only [Nm.strs,List.mem_map] at hu;obtain ⟨q,_,rfl⟩:=hu;rfl) (by unfold maxLen;omega) (by omega) (by omega)
 refine ⟨v1,W1,r1,?_,fun u hu=>Nm.below_grown hu hO gr1 hlo,gr1.size,fun k cs t hk ht=>(gr1.block k (lt_of_heap hk) (Nm.own_ne hO hk (by intro cur e;injection e with _ e2 _;exact ht e2))).trans hk⟩
 have e2:Nm.strs (ps ++ rest)=Nm.strs ps ++ Nm.strs rest:=by simp [Nm.strs]
 rw [e2,List.length_append]
 exact own1
theorem anew_run {lo:Nat} {v:Value} {ps:List Bytes} (hO:W.ownsRow lo 9 1 v ps.length (Nm.strs ps)) (hl:ps.length≤10000) :
  ∃ v1 W1,(Builtin.append_ #[55,55] 55 #[.slice (some ⟨W.heap.size,0,none⟩) 0 0,v]).run Tryz.prog (W.alloc (.cells #[] 9))=.ok v1 W1∧W1.ownsRow W.heap.size 9 1 v1 ps.length (Nm.strs ps)∧Below W.heap.size W W1:=by
 obtain ⟨i0,hi,hz0,hz1,hz2⟩:=info_parts Nm.info9
 have own0:(W.alloc (.cells #[] 9)).ownsRow W.heap.size 9 1 (.slice (some ⟨W.heap.size,0,none⟩) 0 0) ([]:List Bytes).length (Nm.strs []) :=
  ⟨rfl,.inr ⟨W.heap.size,0,#[],rfl,Nat.le_refl _,putAll (w:=W) (.cells #[] 9) W.heap.size rfl,Nat.le_refl _,by unfold maxLen;omega,rfl,rfl⟩⟩
 have hB0:Below W.heap.size W (W.alloc (.cells #[] 9)):=(Below.refl _ W).alloc (Nat.le_refl _) _
 have hRow:∀ {a:Option Addr} {n cap:Nat},v=.slice a n cap→Nm.RowO W a ps:=by
  rintro a n cap rfl
  exact Nm.RowO.of_own hO
 have go:∀ {g cap:Nat},v=.slice (some ⟨g,0,none⟩) ps.length cap→∃ v1 W1,(Builtin.append_ #[55,55] 55 #[.slice (some ⟨W.heap.size,0,none⟩) 0 0,v]).run Tryz.prog (W.alloc (.cells #[] 9))=.ok v1 W1∧W1.ownsRow W.heap.size 9 1 v1 ps.length (Nm.strs ps)∧Below W.heap.size W W1:=by
  rintro g cap e
  have hr:=hRow e
  subst e
  obtain ⟨v1,W1,r1,own1,hB1,-,-⟩:=join_run (W:=W.alloc (.cells #[] 9)) (lo:=W.heap.size) (ps:=[]) (rest:=ps) own0 (by simp) (by simp) hl (pb:=g) (po:=0) (cap:=cap) (hr.below hB0)
  exact ⟨v1,W1,r1,by simpa using own1,hB1 _ hB0⟩
 obtain ⟨hlen,⟨e,h0⟩ | ⟨g,cap,cur,e,_⟩⟩:=hO
 ·have hp:ps=[]:=by
   have:ps.length=0:=by first | exact h0 | omega | simpa using h0
   exact List.length_eq_zero_iff.1 this
  subst e
  subst hp
  exact ⟨_,_,run_append_owned_none (P:=Tryz.prog) (W.alloc (.cells #[] 9)) W.heap.size 55 55 9 i0 1 Tryz.underlying55 hi _ _ _ own0,own0,hB0⟩
 ·exact go e
end
end Go.Proofs.YtlngeaacjbdmhaaGreat.Wl
