/-
 The contracts of a walker's small calls: missing,end.
-/
import Derived.Test.YtlngeaacjbdmhaaGreatPp15
set_option maxRecDepth 100000
set_option maxHeartbeats 1000000
namespace Go.Proofs.YtlngeaacjbdmhaaGreat.Wl
open Go.RowKit
attribute [local go_sem ↓] Go.wp_at_zero Go.wp_at_succ
section
variable {lo N mb:Nat} {W W':World} {t m b:Nat} {E:En} {am an:Int} {s:Nat}
def zfd:Obj:=.cells #[I 0,I 0,.string ⟨#[]⟩,I 0,I 0,.bool false,.bool false] 59
theorem two_new (W:World) (o1 o2:Obj):∃ V,(W.alloc o1).alloc o2=V∧V.heap[W.heap.size]?=some o1∧V.heap[W.heap.size + 1]?=some o2∧Below W.heap.size W V∧V.heap.size=W.heap.size + 2:=by
 refine ⟨_,rfl,?_,?_,((Below.refl _ W).alloc (Nat.le_refl _) _).alloc (by simp) _,by simp⟩
 ·rw [Below.heap_alloc _ _ _ (by simp)];exact heap_alloc_new W o1
 ·have:=heap_alloc_new (W.alloc o1) o2
  simpa using this
theorem set7d {X:World} {b:Nat} {t:TypeId} {a0 a1 a2 a3 a4 a5 a6:Value} (h:X.heap[b]?=some (.cells #[a0,a1,a2,a3,a4,a5,a6] t)) (v0 v1 v2 v3 v4 v5 v6:Value) :
  ∃ Y,(((((((X.setCell ⟨b,0,none⟩ v0).setCell ⟨b,1,none⟩ v1).setCell ⟨b,2,none⟩ v2).setCell ⟨b,3,none⟩ v3).setCell ⟨b,4,none⟩ v4).setCell ⟨b,5,none⟩ v5).setCell ⟨b,6,none⟩ v6).drew=Y∧Y.heap[b]?=some (.cells #[v0,v1,v2,v3,v4,v5,v6] t)∧∀ B u,Below B u X→B≤b→Below B u Y:=by
 obtain ⟨Y,hY,h1,h2⟩:=set7 h v0 v1 v2 v3 v4 v5 v6
 exact ⟨Y.drew,by rw [hY],h1,fun B u hu hb=>below_drew (h2 B u hu hb)⟩
theorem missing_any (hw:Wn W b t m E am an s) (p:Bytes) (rest:List Bytes) (r sl:Bool) (a:Option Addr) (cap:Nat) (hr:rest.length≤100000) :
  Calls Tryz.prog 235 #[P0 b,.string (bs p),.agg #[.bool r,.bool sl,.slice a rest.length cap]] W fun e w'=>e=.returned (.tuple #[(missF p rest sl am an).v,I (missE rest)])∧Below W.heap.size W w':=by
 obtain ⟨V,hV,g1,g2,hB,hs⟩:=two_new W (.cells #[.bool r,.bool sl,.slice a rest.length cap] 234) zfd
 unfold zfd at hV g2
 have hbl:=hw.lt
 obtain ⟨-,-,-,-,-,-,v6,v7,-,-⟩:=(hw.below hB).cells
 have p1:V.cell? ⟨W.heap.size,1,none⟩=some (.bool sl):=by rw [cell_of g1];rfl
 have p2:V.cell? ⟨W.heap.size,2,none⟩=some (.slice a rest.length cap):=by rw [cell_of g1];rfl
 obtain ⟨r0,r1,r2,r3,r4,r5,r6,rf⟩:=cells7 g2
 have n1:b≠W.heap.size + 1:=by omega
 have n2:W.heap.size≠W.heap.size + 1:=by omega
 have n3:W.heap.size + 1≠b:=by omega
 cases rest with
 | nil =>
  obtain ⟨Y,hY,hYb,hYB⟩:=set7d g2 (I am) (I an) (.string (bs p)) (I 0) (I 0) (.bool false) (.bool sl)
  obtain ⟨z0,z1,z2,z3,z4,z5,z6,-⟩:=cells7 hYb
  have HY:=hide (hYB _ _ hB (by omega))
  have HYe:=hide hY
  clear hYb hYB hY hw hB g1 g2 hs
  show Calls _ _ _ _ fun e w'=>e=.returned (.tuple #[.agg #[I am,I an,.string (bs p),I 0,I 0,.bool false,.bool sl],I 0])∧_
  simp only [List.length_nil] at p2 hV ⊢
  go_enter Tryz.func235,Tryz.ntmps235
  go_wp2_with fail
  go_region_held3 (fun w'=>w'.cell? ⟨b,6,none⟩=some (I am)∧w'.cell? ⟨b,7,none⟩=some (I an)∧w'.cell? ⟨W.heap.size,1,none⟩=some (.bool sl)) (go_keep) (fail)
  rw [unhide HYe]
  go_wp2_with fail
  refine bodyPost_ret (v:=.tuple #[.agg #[I am,I an,.string (bs p),I 0,I 0,.bool false,.bool sl],I 0]) (by simp [results,Tryz.results235,go_sem,z0,z1,z2,z3,z4,z5,z6]) rfl ?_
  exact ⟨rfl,unhide HY⟩
 | cons q rest =>
  obtain ⟨Y,hY,hYb,hYB⟩:=set7 g2 (I 0) (I 0) (.string ⟨#[]⟩) (I 0) (I 0) (.bool false) (.bool false)
  obtain ⟨z0,z1,z2,z3,z4,z5,z6,-⟩:=cells7 hYb
  have HY:=hide (hYB _ _ hB (by omega))
  have HYe:=hide hY
  have hl:(0:Int) < ((q :: rest).length:Int):=by simp
  clear hYb hYB hY hw hB g1 g2 hs
  show Calls _ _ _ _ fun e w'=>e=.returned (.tuple #[.agg #[I 0,I 0,.string (bs []),I 0,I 0,.bool false,.bool false],I 32])∧_
  generalize (q :: rest).length=n at *
  go_enter Tryz.func235,Tryz.ntmps235
  go_wp2_with fail
  rw [unhide HYe]
  refine bodyPost_ret (v:=.tuple #[.agg #[I 0,I 0,.string (bs []),I 0,I 0,.bool false,.bool false],I 32]) (by simp [results,Tryz.results235,go_sem,z0,z1,z2,z3,z4,z5,z6]) rfl ?_
  exact ⟨rfl,unhide HY⟩
theorem end_any (D:Wd lo N mb W t m E) (hw:Wn W b t m E am an s) (hn:(kl an).wf=true) (dm dn:Int) (last:Bytes) (sl:Bool) :
  Calls Tryz.prog 238 #[P0 b,.agg #[I dm,I dn],.string (bs last),.bool sl] W fun e w'=>e=.returned (.tuple #[(E.endF dm dn last am an sl).v,I (E.endE an sl)])∧Below W.heap.size W w':=by
 obtain ⟨V,hV,g1,g2,hB,hs⟩:=two_new W (.cells #[I dm,I dn] 50) zfd
 unfold zfd at hV g2
 have hbl:=hw.lt
 have hwV:=hw.below hB
 obtain ⟨-,-,-,-,-,-,v6,v7,-,-⟩:=hwV.cells
 have p0:V.cell? ⟨W.heap.size,0,none⟩=some (I dm):=by rw [cell_of g1];rfl
 have p1:V.cell? ⟨W.heap.size,1,none⟩=some (I dn):=by rw [cell_of g1];rfl
 have pf:=frozen_of g1
 obtain ⟨r0,r1,r2,r3,r4,r5,r6,rf⟩:=cells7 g2
 have n1:b≠W.heap.size + 1:=by omega
 have n2:W.heap.size≠W.heap.size + 1:=by omega
 have n3:W.heap.size + 1≠b:=by omega
 have n4:W.heap.size + 1≠W.heap.size:=by omega
 have n5:b≠W.heap.size:=by omega
 have n6:W.heap.size≠b:=by omega
 obtain ⟨K,hK⟩:∃ K,K=E.T.kindOf an:=⟨_,rfl⟩
 have HKd:=hide (kind_any (D.below hB) hwV am an hn)
 rw [← hK] at HKd
 obtain ⟨bad,hbad⟩:∃ bad,bad=decide (sl=true∧E.T.kindOf an≠1):=⟨_,rfl⟩
 -- what is answered
 cases bad with
 | true =>
  have hb:=of_decide_eq_true hbad.symm
  obtain ⟨rfl,hk1⟩:=hb
  have e1:(E.endF dm dn last am an true)=Fd.none:=by rw [En.endF,if_pos ⟨rfl,hk1⟩]
  have e2:E.endE an true=37:=by rw [En.endE,if_pos ⟨rfl,hk1⟩]
  rw [e1,e2]
  rw [← hK] at hk1
  have HH:=hide (⟨g2,hB⟩:_∧_)
  clear e1 e2 hbad D hw hwV g1 g2 hB hK
  show Calls _ _ _ _ fun e w'=>e=.returned (.tuple #[.agg #[I 0,I 0,.string (bs []),I 0,I 0,.bool false,.bool false],I 37])∧_
  go_enter Tryz.func238,Tryz.ntmps238
  go_wp2_with fail
  refine (unhide HKd).mono ?_
  rintro e w3 ⟨rfl,hB3⟩
  obtain ⟨g2,hB⟩:=unhide HH
  have g3:=(hB3.block _ (by omega)).trans g2
  obtain ⟨Y,hY,hYb,hYB⟩:=set7 g3 (I 0) (I 0) (.string ⟨#[]⟩) (I 0) (I 0) (.bool false) (.bool false)
  obtain ⟨z0,z1,z2,z3,z4,z5,z6,-⟩:=cells7 hYb
  obtain ⟨s0,s1,s2,s3,s4,s5,s6,sf⟩:=cells7 g3
  have HY:=hide (hYB _ _ (hB.trans (hB3.mono (by omega))) (by omega))
  have HYe:=hide hY
  clear hYb hYB hY hB hB3 g2 g3 HKd r0 r1 r2 r3 r4 r5 r6 rf p0 p1 pf v6 v7
  go_wp2_with fail
  rw [unhide HYe]
  refine bodyPost_ret (v:=.tuple #[.agg #[I 0,I 0,.string (bs []),I 0,I 0,.bool false,.bool false],I 37]) (by simp [results,Tryz.results238,go_sem,z0,z1,z2,z3,z4,z5,z6]) rfl ?_
  exact ⟨rfl,unhide HY⟩
 | false =>
  have hb:=of_decide_eq_false hbad.symm
  have e2:E.endE an sl=0:=by rw [En.endE,if_neg hb]
  have e1:E.endF dm dn last am an sl=if last=[] then ⟨am,an,last,am,an,true,sl⟩ else ⟨dm,dn,last,am,an,true,sl⟩:=by rw [En.endF,if_neg hb]
  rw [e2]
  have hk1:sl=true→K=1:=fun h=>by
   rw [hK]
   exact Decidable.not_not.1 fun h2=>hb ⟨h,h2⟩
  clear e2 hbad hb
  cases sl with
  | true =>
   cases last with
   | nil =>
    have ef:E.endF dm dn [] am an true=⟨am,an,[],am,an,true,true⟩:=by rw [e1];simp
    rw [ef]
    clear e1 ef
    have hk2:K=1:=hk1 rfl
    clear hk1
    have HH:=hide (⟨g1,g2,hB,hwV⟩:_∧_∧_∧_)
    clear D hw hwV g1 g2 hB hK
    show Calls _ _ _ _ fun e w'=>e=.returned (.tuple #[.agg #[I am,I an,.string (bs []),I am,I an,.bool true,.bool true],I 0])∧_
    rw [hk2] at HKd
    clear hk2
    go_enter Tryz.func238,Tryz.ntmps238
    go_wp2_with fail
    refine (unhide HKd).mono ?_
    rintro e w3 ⟨rfl,hB3⟩
    obtain ⟨g1,g2,hB,hwV⟩:=unhide HH
    have hw3n:=hwV.below hB3
    obtain ⟨-,-,-,-,-,-,u6,u7,-,-⟩:=hw3n.cells
    have k1:=(hB3.block _ (by omega)).trans g1
    have k2:=(hB3.block _ (by omega)).trans g2
    have hBW:=hB.trans (hB3.mono (by omega))
    obtain ⟨X1,X2,⟨x1,x2⟩,⟨y0,y1⟩,⟨f0,f1⟩,hXb,hfr,hXs⟩:=Mt.store2 k1 (I am) (I an)
    have j0:X2.cell? ⟨W.heap.size,0,none⟩=some (I am):=by rw [cell_of hXb];rfl
    have j1:X2.cell? ⟨W.heap.size,1,none⟩=some (I an):=by rw [cell_of hXb];rfl
    have hs3:W.heap.size + 2≤w3.heap.size:=by have:=hB3.size;omega
    have t6:X2.cell? ⟨b,6,none⟩=some (I am):=cell_kp u6 (hfr.blk b (by omega) (by simp;omega))
    have t7:X2.cell? ⟨b,7,none⟩=some (I an):=cell_kp u7 (hfr.blk b (by omega) (by simp;omega))
    have k3:=(hfr.blk (W.heap.size + 1) (by omega) (by simp)).trans k2
    have hBX:Below W.heap.size W X2:=hBW.trans (hfr.base (by omega) (by simp))
    obtain ⟨Y,hY,hYb,hYB⟩:=set7d k3 (I am) (I an) (.string (bs [])) (I am) (I an) (.bool true) (.bool true)
    obtain ⟨z0,z1,z2,z3,z4,z5,z6,-⟩:=cells7 hYb
    obtain ⟨s0,s1,s2,s3,s4,s5,s6,sf⟩:=cells7 k3
    have HY:=hide (hYB _ _ hBX (by omega))
    have HYe:=hide hY
    clear hfr hXs hXb
    clear hYb hYB hY hB hB3 g1 g2 k1 k2 k3 hw3n hwV hBW hBX HH HKd hs
    clear r0 r1 r2 r3 r4 r5 r6 rf p0 p1 pf v6 v7
    go_wp2_with fail
    go_region_held3 (fun w'=>w'.cell? ⟨b,6,none⟩=some (I am)∧w'.cell? ⟨b,7,none⟩=some (I an)∧w'.cell? ⟨W.heap.size,0,none⟩=some (I am)∧w'.cell? ⟨W.heap.size,1,none⟩=some (I an)) (go_keep) (fail)
    rw [unhide HYe]
    go_wp2_with fail
    refine bodyPost_ret (v:=.tuple #[.agg #[I am,I an,.string (bs []),I am,I an,.bool true,.bool true],I 0]) (by simp [results,Tryz.results238,go_sem,z0,z1,z2,z3,z4,z5,z6]) rfl ?_
    exact ⟨rfl,unhide HY⟩
   | cons c l =>
    have ef:E.endF dm dn (c :: l) am an true=⟨dm,dn,(c :: l),am,an,true,true⟩:=by rw [e1];simp
    rw [ef]
    clear e1 ef
    have hk2:K=1:=hk1 rfl
    clear hk1
    have HH:=hide (⟨g1,g2,hB,hwV⟩:_∧_∧_∧_)
    clear D hw hwV g1 g2 hB hK
    show Calls _ _ _ _ fun e w'=>e=.returned (.tuple #[.agg #[I dm,I dn,.string (bs (c :: l)),I am,I an,.bool true,.bool true],I 0])∧_
    rw [hk2] at HKd
    clear hk2
    go_enter Tryz.func238,Tryz.ntmps238
    go_wp2_with fail
    refine (unhide HKd).mono ?_
    rintro e w3 ⟨rfl,hB3⟩
    obtain ⟨g1,g2,hB,hwV⟩:=unhide HH
    have hw3n:=hwV.below hB3
    obtain ⟨-,-,-,-,-,-,u6,u7,-,-⟩:=hw3n.cells
    have k1:=(hB3.block _ (by omega)).trans g1
    have k2:=(hB3.block _ (by omega)).trans g2
    have hBW:=hB.trans (hB3.mono (by omega))
    obtain ⟨X2,hX2⟩:∃ X2,w3=X2:=⟨_,rfl⟩
    have j0:X2.cell? ⟨W.heap.size,0,none⟩=some (I dm):=by rw [← hX2,cell_of k1];rfl
    have j1:X2.cell? ⟨W.heap.size,1,none⟩=some (I dn):=by rw [← hX2,cell_of k1];rfl
    have t6:X2.cell? ⟨b,6,none⟩=some (I am):=by rw [← hX2];exact u6
    have t7:X2.cell? ⟨b,7,none⟩=some (I an):=by rw [← hX2];exact u7
    have k3:=k2
    rw [hX2] at k3
    have hBX:Below W.heap.size W X2:=by rw [← hX2];exact hBW
    obtain ⟨Y,hY,hYb,hYB⟩:=set7d k3 (I dm) (I dn) (.string (bs (c :: l))) (I am) (I an) (.bool true) (.bool true)
    obtain ⟨z0,z1,z2,z3,z4,z5,z6,-⟩:=cells7 hYb
    obtain ⟨s0,s1,s2,s3,s4,s5,s6,sf⟩:=cells7 k3
    have HY:=hide (hYB _ _ hBX (by omega))
    have HYe:=hide hY
    clear hYb hYB hY hB hB3 g1 g2 k1 k2 k3 hw3n hwV hBW hBX HH HKd hs
    clear r0 r1 r2 r3 r4 r5 r6 rf p0 p1 pf v6 v7
    subst hX2
    go_wp2_with fail
    go_region_held3 (fun w'=>w'.cell? ⟨b,6,none⟩=some (I am)∧w'.cell? ⟨b,7,none⟩=some (I an)∧w'.cell? ⟨W.heap.size,0,none⟩=some (I dm)∧w'.cell? ⟨W.heap.size,1,none⟩=some (I dn)) (go_keep) (fail)
    rw [unhide HYe]
    go_wp2_with fail
    refine bodyPost_ret (v:=.tuple #[.agg #[I dm,I dn,.string (bs (c :: l)),I am,I an,.bool true,.bool true],I 0]) (by simp [results,Tryz.results238,go_sem,z0,z1,z2,z3,z4,z5,z6]) rfl ?_
    exact ⟨rfl,unhide HY⟩
  | false =>
   cases last with
   | nil =>
    have ef:E.endF dm dn [] am an false=⟨am,an,[],am,an,true,false⟩:=by rw [e1];simp
    rw [ef]
    clear e1 ef
    clear hk1
    have HH:=hide (⟨g1,g2,hB,hwV⟩:_∧_∧_∧_)
    clear D hw hwV g1 g2 hB hK
    show Calls _ _ _ _ fun e w'=>e=.returned (.tuple #[.agg #[I am,I an,.string (bs []),I am,I an,.bool true,.bool false],I 0])∧_
    obtain ⟨w3,hw3⟩:∃ w3,V=w3:=⟨_,rfl⟩
    have hB3:Below V.heap.size V w3:=by rw [hw3];exact Below.refl _ _
    obtain ⟨g1,g2,hB,hwV⟩:=unhide HH
    have hw3n:=hwV.below hB3
    obtain ⟨-,-,-,-,-,-,u6,u7,-,-⟩:=hw3n.cells
    have k1:=(hB3.block _ (by omega)).trans g1
    have k2:=(hB3.block _ (by omega)).trans g2
    have hBW:=hB.trans (hB3.mono (by omega))
    obtain ⟨X1,X2,⟨x1,x2⟩,⟨y0,y1⟩,⟨f0,f1⟩,hXb,hfr,hXs⟩:=Mt.store2 k1 (I am) (I an)
    have j0:X2.cell? ⟨W.heap.size,0,none⟩=some (I am):=by rw [cell_of hXb];rfl
    have j1:X2.cell? ⟨W.heap.size,1,none⟩=some (I an):=by rw [cell_of hXb];rfl
    have hs3:W.heap.size + 2≤w3.heap.size:=by have:=hB3.size;omega
    have t6:X2.cell? ⟨b,6,none⟩=some (I am):=cell_kp u6 (hfr.blk b (by omega) (by simp;omega))
    have t7:X2.cell? ⟨b,7,none⟩=some (I an):=cell_kp u7 (hfr.blk b (by omega) (by simp;omega))
    have k3:=(hfr.blk (W.heap.size + 1) (by omega) (by simp)).trans k2
    have hBX:Below W.heap.size W X2:=hBW.trans (hfr.base (by omega) (by simp))
    obtain ⟨Y,hY,hYb,hYB⟩:=set7d k3 (I am) (I an) (.string (bs [])) (I am) (I an) (.bool true) (.bool false)
    obtain ⟨z0,z1,z2,z3,z4,z5,z6,-⟩:=cells7 hYb
    obtain ⟨s0,s1,s2,s3,s4,s5,s6,sf⟩:=cells7 k3
    have HY:=hide (hYB _ _ hBX (by omega))
    have HYe:=hide hY
    clear hfr hXs hXb
    clear hYb hYB hY hB hB3 g1 g2 k1 k2 k3 hw3n hwV hBW hBX HH HKd hs
    clear r0 r1 r2 r3 r4 r5 r6 rf p0 p1 pf v6 v7
    subst hw3
    go_enter Tryz.func238,Tryz.ntmps238
    go_wp2_with fail
    go_region_held3 (fun w'=>w'.cell? ⟨b,6,none⟩=some (I am)∧w'.cell? ⟨b,7,none⟩=some (I an)∧w'.cell? ⟨W.heap.size,0,none⟩=some (I am)∧w'.cell? ⟨W.heap.size,1,none⟩=some (I an)) (go_keep) (fail)
    rw [unhide HYe]
    go_wp2_with fail
    refine bodyPost_ret (v:=.tuple #[.agg #[I am,I an,.string (bs []),I am,I an,.bool true,.bool false],I 0]) (by simp [results,Tryz.results238,go_sem,z0,z1,z2,z3,z4,z5,z6]) rfl ?_
    exact ⟨rfl,unhide HY⟩
   | cons c l =>
    have ef:E.endF dm dn (c :: l) am an false=⟨dm,dn,(c :: l),am,an,true,false⟩:=by rw [e1];simp
    rw [ef]
    clear e1 ef
    clear hk1
    have HH:=hide (⟨g1,g2,hB,hwV⟩:_∧_∧_∧_)
    clear D hw hwV g1 g2 hB hK
    show Calls _ _ _ _ fun e w'=>e=.returned (.tuple #[.agg #[I dm,I dn,.string (bs (c :: l)),I am,I an,.bool true,.bool false],I 0])∧_
    obtain ⟨w3,hw3⟩:∃ w3,V=w3:=⟨_,rfl⟩
    have hB3:Below V.heap.size V w3:=by rw [hw3];exact Below.refl _ _
    obtain ⟨g1,g2,hB,hwV⟩:=unhide HH
    have hw3n:=hwV.below hB3
    obtain ⟨-,-,-,-,-,-,u6,u7,-,-⟩:=hw3n.cells
    have k1:=(hB3.block _ (by omega)).trans g1
    have k2:=(hB3.block _ (by omega)).trans g2
    have hBW:=hB.trans (hB3.mono (by omega))
    obtain ⟨X2,hX2⟩:∃ X2,w3=X2:=⟨_,rfl⟩
    have j0:X2.cell? ⟨W.heap.size,0,none⟩=some (I dm):=by rw [← hX2,cell_of k1];rfl
    have j1:X2.cell? ⟨W.heap.size,1,none⟩=some (I dn):=by rw [← hX2,cell_of k1];rfl
    have t6:X2.cell? ⟨b,6,none⟩=some (I am):=by rw [← hX2];exact u6
    have t7:X2.cell? ⟨b,7,none⟩=some (I an):=by rw [← hX2];exact u7
    have k3:=k2
    rw [hX2] at k3
    have hBX:Below W.heap.size W X2:=by rw [← hX2];exact hBW
    obtain ⟨Y,hY,hYb,hYB⟩:=set7d k3 (I dm) (I dn) (.string (bs (c :: l))) (I am) (I an) (.bool true) (.bool false)
    obtain ⟨z0,z1,z2,z3,z4,z5,z6,-⟩:=cells7 hYb
    obtain ⟨s0,s1,s2,s3,s4,s5,s6,sf⟩:=cells7 k3
    have HY:=hide (hYB _ _ hBX (by omega))
    have HYe:=hide hY
    clear hYb hYB hY hB hB3 g1 g2 k1 k2 k3 hw3n hwV hBW hBX HH HKd hs
    clear r0 r1 r2 r3 r4 r5 r6 rf p0 p1 pf v6 v7
    subst hw3
    subst hX2
    go_enter Tryz.func238,Tryz.ntmps238
    go_wp2_with fail
    go_region_held3 (fun w'=>w'.cell? ⟨b,6,none⟩=some (I am)∧w'.cell? ⟨b,7,none⟩=some (I an)∧w'.cell? ⟨W.heap.size,0,none⟩=some (I dm)∧w'.cell? ⟨W.heap.size,1,none⟩=some (I dn)) (go_keep) (fail)
    rw [unhide HYe]
    go_wp2_with fail
    refine bodyPost_ret (v:=.tuple #[.agg #[I dm,I dn,.string (bs (c :: l)),I am,I an,.bool true,.bool false],I 0]) (by simp [results,Tryz.results238,go_sem,z0,z1,z2,z3,z4,z5,z6]) rfl ?_
    exact ⟨rfl,unhide HY⟩
end
attribute [local go_sem ↓] Go.wp_at_zero Go.wp_at_succ
section
variable {lo N mb:Nat} {W W':World} {t m b:Nat} {E:En} {am an:Int} {s:Nat}
def intAt (W:World) (b:Nat):Int:=match W.cell? ⟨b,0,none⟩ with | some (.int _ n)=>n | _ =>0
structure DJ (E:En) (W wr:World) (am an:Int) (P u:Nat) (x y:Int):Prop where
 cp:wr.heap[P]?=some (.cells #[I x,I y] 50)
 cu:wr.heap[u]?=some (.cells #[I (Mt.upM E.es x y),I (Mt.upN E.es x y)] 50)
 be:Below W.heap.size W wr
 eq:up E.es x y=up E.es am an
 wf:(kl y).wf=true
 hP:W.heap.size < P
 hu:W.heap.size < u
 ne:P≠u
 r:wr.heap[W.heap.size]?=some (.cells #[I 0,I 0] 50)
theorem upN_wf (h:∀ p ∈ E.es,(kl p.top).wf=true∧(kl p.an).wf=true) {x y:Int} (hy:(kl y).wf=true):(kl (Mt.upN E.es x y)).wf=true:=by
 unfold Mt.upN
 split
 ·rename_i hu
  unfold Mt.upIs at hu
  simp at hu
  exact (h _ (Mt.fst_mem hu.1).1).2
 ·exact hy
theorem dn_wf (h:∀ p ∈ E.es,(kl p.top).wf=true∧(kl p.an).wf=true):∀ (k:Nat) (x y:Int),(kl y).wf=true→(kl (Mt.dn E.es k x y).2).wf=true:=by
 intro k
 induction k with
 | zero=>intro x y hy;exact hy
 | succ k ih =>
  intro x y hy
  rw [Mt.dn]
  split
  ·rename_i ha
   exact ih _ _ (h _ (Mt.fst_mem ha).1).1
  ·exact hy
theorem down_wf (h:∀ p ∈ E.es,(kl p.top).wf=true∧(kl p.an).wf=true) {x y:Int} (hy:(kl y).wf=true):(kl (E.down x y).2).wf=true:=dn_wf h _ _ _ hy
theorem tup_wf (h:Wk 880 E.T) {n:Int} (hn:(kl n).wf=true):(kl (E.T.up n)).wf=true:=by
 unfold Tr.up
 split
 ·exact wf_of (by omega)
 ·rename_i x hx
  obtain ⟨h1,h2⟩:=Tr.dir_some.1 hx
  split
  ·exact hn
  ·have:=h.upw n x h1
   exact wf_of (by omega)
theorem dots_here (hw:Wn W b t m E am an s) :
  Calls Tryz.prog 233 #[P0 b,.string ⟨#[46]⟩] W fun e w'=>e=.returned (.agg #[I am,I an])∧Below W.heap.size W w':=by
 obtain ⟨V,hV,g1,hB⟩:∃ V,W.alloc (.cells #[I 0,I 0] 50)=V∧V.heap[W.heap.size]?=some (.cells #[I 0,I 0] 50)∧Below W.heap.size W V:=⟨_,rfl,heap_alloc_new W _,(Below.refl _ W).alloc (Nat.le_refl _) _⟩
 obtain ⟨-,-,-,-,-,-,v6,v7,-,-⟩:=(hw.below hB).cells
 have HH:=hide (⟨g1,hB⟩:_∧_)
 have hbl:=hw.lt
 have n1:b≠W.heap.size:=by omega
 have n2:W.heap.size≠b:=by omega
 clear g1 hB hw
 go_enter Tryz.func233,Tryz.ntmps233
 go_wp2_with fail
 go_quiet (fail)
 obtain ⟨g1,hB⟩:=unhide HH
 obtain ⟨X1,X2,⟨x1,x2⟩,⟨y0,y1⟩,⟨f0,f1⟩,hX,-,hXB,-⟩:=ans2 (V:=V) (w3:=V.drewN nq) g1 (below_n V nq) (I am) (I an)
 have z0:X2.cell? ⟨W.heap.size,0,none⟩=some (I am):=by rw [cell_of hX];rfl
 have z1:X2.cell? ⟨W.heap.size,1,none⟩=some (I an):=by rw [cell_of hX];rfl
 have HX:=hide (hXB _ _ (below_dn hB nq) (Nat.le_refl _))
 clear hX hXB g1 hB HH
 go_wp2_with fail
 refine bodyPost_ret (v:=.agg #[I am,I an]) (by simp [results,Tryz.results233,go_sem,z0,z1]) rfl ?_
 exact ⟨rfl,unhide HX⟩
theorem dots_root (hw:Wn W b t m E am an s) (hr:am=E.rm∧an=E.rn) :
  Calls Tryz.prog 233 #[P0 b,.string ⟨#[46,46]⟩] W fun e w'=>e=.returned (.agg #[I am,I an])∧Below W.heap.size W w':=by
 obtain ⟨V,hV,g1,hB⟩:∃ V,W.alloc (.cells #[I 0,I 0] 50)=V∧V.heap[W.heap.size]?=some (.cells #[I 0,I 0] 50)∧Below W.heap.size W V:=⟨_,rfl,heap_alloc_new W _,(Below.refl _ W).alloc (Nat.le_refl _) _⟩
 obtain ⟨-,-,-,-,v4,v5,v6,v7,-,-⟩:=(hw.below hB).cells
 rw [← hr.1] at v4
 rw [← hr.2] at v5
 have HH:=hide (⟨g1,hB⟩:_∧_)
 have hbl:=hw.lt
 have n1:b≠W.heap.size:=by omega
 have n2:W.heap.size≠b:=by omega
 clear g1 hB hw hr
 go_enter Tryz.func233,Tryz.ntmps233
 go_wp2_with fail
 go_quiet (fail)
 obtain ⟨g1,hB⟩:=unhide HH
 obtain ⟨X1,X2,⟨x1,x2⟩,⟨y0,y1⟩,⟨f0,f1⟩,hX,-,hXB,-⟩:=ans2 (V:=V) (w3:=V.drewN nq) g1 (below_n V nq) (I am) (I an)
 have z0:X2.cell? ⟨W.heap.size,0,none⟩=some (I am):=by rw [cell_of hX];rfl
 have z1:X2.cell? ⟨W.heap.size,1,none⟩=some (I an):=by rw [cell_of hX];rfl
 have HX:=hide (hXB _ _ (below_dn hB nq) (Nat.le_refl _))
 clear hX hXB g1 hB HH
 go_wp2_with fail
 refine bodyPost_ret (v:=.agg #[I am,I an]) (by simp [results,Tryz.results233,go_sem,z0,z1]) rfl ?_
 exact ⟨rfl,unhide HX⟩
theorem DJ.start (hn:(kl an).wf=true) {V w3:World} (g1:V.heap[W.heap.size]?=some (.cells #[I 0,I 0] 50)) (g2:V.heap[W.heap.size + 1]?=some (.cells #[I am,I an] 50)) (hB:Below W.heap.size W V) (hs:V.heap.size=W.heap.size + 2) (h3:Below V.heap.size V w3) {u:Nat} (hu:V.heap.size≤u) (gu:w3.heap[u]?=some (.cells #[I (Mt.upM E.es am an),I (Mt.upN E.es am an)] 50)) :
  DJ E W w3 am an (W.heap.size + 1) u am an :=
 ⟨(h3.block _ (by omega)).trans g2,gu,hB.trans (h3.mono (by omega)),rfl,hn,by omega,by omega,by omega,(h3.block _ (by omega)).trans g1⟩
theorem two_ahead (V:World):∃ X,X=(V.alloc (.cells #[I 0,I 0] 50)).drew∧Below V.heap.size V X∧X.heap[V.heap.size]?=some (.cells #[I 0,I 0] 50)∧V.heap.size < X.heap.size :=
 ⟨_,rfl,below_drew ((Below.refl _ V).alloc (Nat.le_refl _) _),heap_alloc_new V _,by show V.heap.size < (V.alloc _).heap.size;simp⟩
theorem dots_up (D:Wd lo N mb W t m E) (hw:Wn W b t m E am an s) (hn:(kl an).wf=true) (hr:¬ (am=E.rm∧an=E.rn)) (p q:Int) (hp:(E.down (up E.es am an).1 (E.T.up (up E.es am an).2)).1=p) (hq:(E.down (up E.es am an).1 (E.T.up (up E.es am an).2)).2=q) :
  Calls Tryz.prog 233 #[P0 b,.string ⟨#[46,46]⟩] W fun e w'=>e=.returned (.agg #[I p,I q])∧Below W.heap.size W w':=by
 obtain ⟨V0,hV0,g0,hB0⟩:∃ V,W.alloc (.cells #[I 0,I 0] 50)=V∧V.heap[W.heap.size]?=some (.cells #[I 0,I 0] 50)∧Below W.heap.size W V:=⟨_,rfl,heap_alloc_new W _,(Below.refl _ W).alloc (Nat.le_refl _) _⟩
 obtain ⟨-,-,-,-,v4,v5,v6,v7,-,-⟩:=(hw.below hB0).cells
 have hs0:V0.heap.size=W.heap.size + 1:=by rw [← hV0];simp
 have hbl:=hw.lt
 have HH:=hide (⟨D,hw,g0,hB0,hs0⟩:_∧_∧_∧_∧_)
 have n1:b≠W.heap.size:=by omega
 clear D hw g0 hB0 hs0
 go_enter Tryz.func233,Tryz.ntmps233
 go_upto_region 1 with fail
 go_cut [20] from 8 to 19 (fun s20 wc=>s20=.bool false∧∃ k,wc=V0.drewN k)
 case first =>
  by_cases h1:am=E.rm
  ·have h2:¬ an=E.rn:=fun h=>hr ⟨h1,h⟩
   rw [← h1] at v4
   clear hr h1
   go_quiet (fail)
   go_wp2_with fail
   go_meet
   case rel=>exact ⟨rfl,_,rfl⟩
  ·clear hr
   go_quiet (fail)
   go_wp2_with fail
   go_meet
   case rel=>exact ⟨rfl,_,rfl⟩
 case rest =>
  obtain ⟨rfl,k,rfl⟩:=hcut
  obtain ⟨D,hw,g0,hB0,hs0⟩:=unhide HH
  clear v4 v5 HH hr
  obtain ⟨V,hV,gV,hBV,hsV⟩:∃ V,(V0.drewN k).alloc (.cells #[I am,I an] 50)=V∧V.heap[W.heap.size + 1]?=some (.cells #[I am,I an] 50)∧Below V0.heap.size V0 V∧V.heap.size=W.heap.size + 2:=by
   refine ⟨_,rfl,?_,(below_n V0 k).alloc (Nat.le_refl _) _,?_⟩
   ·rw [← hs0];exact heap_alloc_new (V0.drewN k) _
   ·show ((V0.drewN k).alloc _).heap.size=_
    simp [World.drewN]
    omega
  have g1V:=(hBV.block _ (by omega)).trans g0
  have hBW:Below W.heap.size W V:=hB0.trans (hBV.mono (by omega))
  obtain ⟨w0,w1,-⟩:=(hw.below hBW).cells
  have p0:V.cell? ⟨W.heap.size + 1,0,none⟩=some (I am):=by rw [cell_of gV];rfl
  have p1:V.cell? ⟨W.heap.size + 1,1,none⟩=some (I an):=by rw [cell_of gV];rfl
  have HD:=hide D
  have Hw:=hide hw
  have HG:=hide (⟨g1V,gV,hBW,hsV⟩:_∧_∧_∧_)
  have HU:=hide (fun x y p q f=>up_W (p:=p) (q:=q) (f:=f) D x y)
  have hbV:b < V.heap.size:=by omega
  have nb1:b≠W.heap.size + 1:=by omega
  have HS0:=hide hs0
  clear D hw g0 hB0 g1V gV hBW hBV
  go_wp2_with fail
  go_cut [6,7] from 29 to 37 (fun s6 s7 wc=>∃ u,s6=P0 u∧s7=.bool (Mt.upIs E.es am an)∧DJ E W wc am an (W.heap.size + 1) u am an)
  case first =>
   obtain ⟨g1V,gV,hBW,_⟩:=unhide HG
   obtain ⟨x,hx⟩:∃ x,Mt.upM E.es am an=x:=⟨_,rfl⟩
   obtain ⟨y,hy⟩:∃ y,Mt.upN E.es am an=y:=⟨_,rfl⟩
   obtain ⟨f,hf⟩:∃ f,Mt.upIs E.es am an=f:=⟨_,rfl⟩
   obtain ⟨X,hX,hBX,gX,hlX⟩:=two_ahead V
   have H1:=hide (unhide HU am an x y f hx hy hf X (hBW.trans (hBX.mono hBW.size)))
   have H2:=hide (unhide HU am an x y f hx hy hf V.drew (below_drew hBW))
   rw [hX] at H1 hBX gX hlX
   have HX:=hide (⟨hBX,gX,hlX⟩:_∧_∧_)
   have HXY:=hide (⟨hx,hy,hf⟩:_∧_∧_)
   have nb3:b≠W.heap.size + 2:=by omega
   clear hX hBX gX hlX X g1V gV hBW hx hy hf HU HD Hw hV0 hV v6 v7 hs0
   go_region_held3 (fun w'=>w'.cell? ⟨b,1,none⟩=some (P0 m)∧w'.cell? ⟨W.heap.size + 1,0,none⟩=some (I am)∧w'.cell? ⟨W.heap.size + 1,1,none⟩=some (I an)) (go_keep)
    (first
     | (go_at_call 272;refine (unhide H1).mono ?_;rintro e w3 ⟨rfl,HB3⟩;obtain ⟨hBX,gX,hlX⟩:=unhide HX;obtain ⟨X1,X2,⟨x1,x2⟩,⟨y0,y1⟩,⟨f0,f1⟩,hX2,hXk,hXB,hXs⟩:=ans2 gX (unhide HB3) (I x) (I y);have hB3V:=hBX.trans ((unhide HB3).mono (Nat.le_of_lt hlX));have q1:=cell_be w1 hB3V;have q2:=cell_be p0 hB3V;have q3:=cell_be p1 hB3V;have hB4V:=hXB _ _ hB3V (Nat.le_refl _);have s1:=cell_be w1 hB4V;have s2:=cell_be p0 hB4V;have s3:=cell_be p1 hB4V;have HE:=hide (⟨hB4V,hX2⟩:_∧_);clear hX2 hXk hXB hXs hB3V hB4V hBX gX hlX;rw [hsV] at x1 x2 y0 y1 f0 f1)
     | (go_at_call 272;refine (unhide H2).mono ?_;rintro e w3 ⟨rfl,HB3⟩;have hB3V:=(below_drew (Below.refl V.heap.size V)).trans (unhide HB3);have q1:=cell_be w1 hB3V;have q2:=cell_be p0 hB3V;have q3:=cell_be p1 hB3V;have HE:=hide hB3V;clear hB3V))
   ·rename_i hHeld
    have hBe:=(unhide HE).alloc (unhide HE).size (.cells #[I x,I y] 50)
    have hgu:=heap_alloc_new w3 (.cells #[I x,I y] 50)
    have hsu:=(unhide HE).size
    have HF:=hide (⟨hBe,hgu,hsu⟩:_∧_∧_)
    clear hHeld hBe hgu hsu q1 q2 q3 H1 H2
    go_wp2_with fail
    go_meet
    case rel =>
     obtain ⟨g1V,gV,hBW,hsV'⟩:=unhide HG
     obtain ⟨hBe,hgu,hsu⟩:=unhide HF
     obtain ⟨hx,hy,hf⟩:=unhide HXY
     refine ⟨w3.heap.size,rfl,by rw [hf],DJ.start hn g1V gV hBW hsV' hBe (by omega) ?_⟩
     rw [hx,hy]
     exact hgu
   ·rename_i hHeld
    clear hHeld q1 q2 q3 H1 H2 x1 x2 y0 y1 f0 f1 s1 s2 s3
    go_wp2_with fail
    go_meet
    case rel =>
     obtain ⟨g1V,gV,hBW,hsV'⟩:=unhide HG
     obtain ⟨hBe,hgu⟩:=unhide HE
     obtain ⟨hx,hy,hf⟩:=unhide HXY
     refine ⟨W.heap.size + 2,rfl,by rw [hf],DJ.start hn g1V gV hBW hsV' hBe (by omega) ?_⟩
     rw [hx,hy,← hsV']
     exact hgu
  case rest =>
   obtain ⟨u,rfl,rfl,J⟩:=hcut
   have HJ:=hide J
   clear J w0 w1 p0 p1 HG hsV hbV hV0 hV v6 v7 hs0 HS0
   go_wp2_with fail
   go_loopw [6,7] (fun s6 s7 wr=>∃ u x y,s6=P0 u∧s7=.bool (Mt.upIs E.es x y)∧Hid (DJ E W wr am an (W.heap.size + 1) u x y)) (fun _ _ wr=>upK E.es (intAt wr (W.heap.size + 1)))
   case atStart=>exact ⟨u,am,an,rfl,rfl,HJ⟩
   case round =>
    obtain ⟨u,x,y,rfl,rfl,J⟩:=hrel
    cases hf:Mt.upIs E.es x y with
    | true =>
     obtain ⟨x',hx'⟩:∃ x',x'=Mt.upM E.es x y:=⟨_,rfl⟩
     obtain ⟨y',hy'⟩:∃ y',y'=Mt.upN E.es x y:=⟨_,rfl⟩
     obtain ⟨jp,ju,jb,je,jw,jP,jU,jn,jr⟩:=unhide J
     rw [← hx',← hy'] at ju
     have hlu:=lt_of_heap ju
     have hlp:=lt_of_heap jp
     have hWr:=jb.size
     obtain ⟨X1,X2,⟨x1,x2⟩,⟨y0,y1⟩,⟨f0,f1⟩,hXb,hfr,hXs⟩:=Mt.store2 jp (I x') (I y')
     have ku:=(hfr.blk u hlu (by simp;omega)).trans ju
     have u0:wr.cell? ⟨u,0,none⟩=some (I x'):=by rw [cell_of ju];rfl
     have u1:wr.cell? ⟨u,1,none⟩=some (I y'):=by rw [cell_of ju];rfl
     have t0:X2.cell? ⟨u,0,none⟩=some (I x'):=by rw [cell_of ku];rfl
     have t1:X2.cell? ⟨u,1,none⟩=some (I y'):=by rw [cell_of ku];rfl
     obtain ⟨Z,hZ,gZ,hBZ,hsZ⟩:∃ Z,X2.alloc (.cells #[I x',I y'] 50)=Z∧Z.heap[X2.heap.size]?=some (.cells #[I x',I y'] 50)∧Below X2.heap.size X2 Z∧Z.heap.size=X2.heap.size + 1:=⟨_,rfl,heap_alloc_new _ _,(Below.refl _ _).alloc (Nat.le_refl _) _,by simp⟩
     have hBX:Below W.heap.size W X2:=jb.trans (hfr.base (by omega) (by simp))
     have hBW:Below W.heap.size W Z:=hBX.trans (hBZ.mono (by omega))
     have kP:=(hBZ.block _ (by omega)).trans hXb
     have kR:=(hBZ.block _ (by omega)).trans ((hfr.blk W.heap.size (by omega) (by simp)).trans jr)
     obtain ⟨-,w1,-⟩:=((unhide Hw).below hBW).cells
     have p0:Z.cell? ⟨W.heap.size + 1,0,none⟩=some (I x'):=by rw [cell_of kP];rfl
     have p1:Z.cell? ⟨W.heap.size + 1,1,none⟩=some (I y'):=by rw [cell_of kP];rfl
     obtain ⟨x2',hx2⟩:∃ z,Mt.upM E.es x' y'=z:=⟨_,rfl⟩
     obtain ⟨y2',hy2⟩:∃ z,Mt.upN E.es x' y'=z:=⟨_,rfl⟩
     obtain ⟨f2,hf2⟩:∃ z,Mt.upIs E.es x' y'=z:=⟨_,rfl⟩
     have H2:=hide (unhide HU x' y' x2' y2' f2 hx2 hy2 hf2 Z.drew (below_drew hBW))
     have nb4:b≠X2.heap.size:=by omega
     have nb5:W.heap.size + 1≠X2.heap.size:=by omega
     have hm1:intAt wr (W.heap.size + 1)=x:=by unfold intAt;rw [cell_of jp];rfl
     have hless:=(up_less (unhide HD).el hf).2
     have hstep:=up_step (unhide HD).el hf
     rw [← hx'] at hless
     rw [← hx',← hy',je] at hstep
     have HK:=hide (⟨hm1,hless,hstep,upN_wf (unhide HD).wf (x:=x) jw⟩:_∧_∧_∧_)
     rw [← hy'] at HK
     have HM:=hide (⟨hBW,kP,kR,gZ,hsZ,hXs,hWr,hx2,hy2,hf2⟩:_∧_∧_∧_∧_∧_∧_∧_∧_∧_)
     have hbZ:b < Z.heap.size:=by omega
     have hPZ:W.heap.size + 1 < Z.heap.size:=by omega
     clear J jp ju jb je jw jP jU jr hx' hy' hfr hXs hXb ku gZ hBZ hsZ hBX hBW kP kR hx2 hy2 hf2 hm1 hless hstep hlu hlp hWr HU HD Hw hn hp hq
     clear hf
     go_wp2_with fail
     go_region_held3 (fun w'=>w'.cell? ⟨b,1,none⟩=some (P0 m)∧w'.cell? ⟨W.heap.size + 1,0,none⟩=some (I x')∧w'.cell? ⟨W.heap.size + 1,1,none⟩=some (I y')) (go_keep)
      (first
       | (go_at_call 272;refine (unhide H2).mono ?_;rintro e w3 ⟨rfl,HB3⟩;have q1:=cell_be (W:=Z.drew) w1 (unhide HB3);have q2:=cell_be (W:=Z.drew) p0 (unhide HB3);have q3:=cell_be (W:=Z.drew) p1 (unhide HB3);obtain ⟨Y1,Y2,⟨i1,i2⟩,⟨k0,k1⟩,⟨l0,l1⟩,hY2,hYk,hYB,hYs⟩:=ans2 (V:=Z.drew) (unhide HM).2.2.2.1 (unhide HB3) (I x2') (I y2');have s1:Y2.cell? ⟨b,1,none⟩=some (P0 m):=cell_kp (V:=Z.drew) w1 (hYk b nb4 hbZ);have s2:Y2.cell? ⟨W.heap.size + 1,0,none⟩=some (I x'):=cell_kp (V:=Z.drew) p0 (hYk _ nb5 hPZ);have s3:Y2.cell? ⟨W.heap.size + 1,1,none⟩=some (I y'):=cell_kp (V:=Z.drew) p1 (hYk _ nb5 hPZ);have HY:=hide (⟨hY2,hYk,hYB,hYs⟩:_∧_∧_∧_);clear hY2 hYk hYB hYs))
     rename_i hHeld
     clear hHeld q1 q2 q3 i1 i2 k0 k1 l0 l1 H2 w1 p0 p1 s1
     go_wp2_with fail
     obtain ⟨hBW,kP,kR,gZ,hsZ,hXs,hWr,hx2,hy2,hf2⟩:=unhide HM
     obtain ⟨hY2,hYk,hYB,hYs⟩:=unhide HY
     obtain ⟨hm1,hless,hstep,hwf⟩:=unhide HK
     refine ⟨⟨X2.heap.size,x',y',rfl,by rw [hf2],hide ⟨(hYk _ nb5 hPZ).trans kP,by rw [hx2,hy2];exact hY2,?_,hstep.symm,hwf,by omega,by omega,by omega,(hYk _ (by omega) (by show W.heap.size < Z.heap.size;omega)).trans kR⟩⟩,?_⟩
     ·exact hYB _ _ (hBW.trans ((below_drew (Below.refl Z.heap.size Z)).trans (unhide HB3) |>.mono hBW.size)) (by omega)
     ·have hm2:intAt Y2 (W.heap.size + 1)=x':=by unfold intAt;rw [s2]
      rw [hm1,hm2]
      exact hless
    | false =>
     obtain ⟨jp,ju,jb,je,jw,jP,jU,jn,jr⟩:=unhide J
     obtain ⟨w0,w1,-⟩:=((unhide Hw).below jb).cells
     have p0:wr.cell? ⟨W.heap.size + 1,0,none⟩=some (I x):=by rw [cell_of jp];rfl
     have p1:wr.cell? ⟨W.heap.size + 1,1,none⟩=some (I y):=by rw [cell_of jp];rfl
     have hlp:=lt_of_heap jp
     have hup:up E.es am an=(x,y):=by rw [← je,up_end hf]
     rw [hup] at hp hq
     obtain ⟨z,hz⟩:∃ z,E.T.up y=z:=⟨_,rfl⟩
     simp only [hz] at hp hq
     have H1:=hide (tup_W (unhide HD) jw hz wr.drew (below_drew jb))
     have H2:=hide (fun V=>down_W (unhide HD) x z hp hq V)
     have HM:=hide (⟨jb,jr⟩:_∧_)
     have hbl2:b < wr.heap.size:=by have:=jb.size;omega
     clear J jp ju jb je jw jP jU jr hup hz HU HD Hw hn hp hq
     go_wp2_with fail
     go_region_held3 (fun w'=>w'.cell? ⟨b,0,none⟩=some (P0 t)∧w'.cell? ⟨b,1,none⟩=some (P0 m)∧w'.cell? ⟨W.heap.size + 1,0,none⟩=some (I x)∧w'.cell? ⟨W.heap.size + 1,1,none⟩=some (I y)) (go_keep)
      (first
       | (go_at_call 89;refine (unhide H1).mono ?_;rintro e w3 ⟨rfl,HB3⟩;have q0:=cell_be (W:=wr.drew) w0 (unhide HB3);have q1:=cell_be (W:=wr.drew) w1 (unhide HB3);have q2:=cell_be (W:=wr.drew) p0 (unhide HB3);have q3:=cell_be (W:=wr.drew) p1 (unhide HB3);have HB5:=hide ((below_drew (Below.refl wr.heap.size wr)).trans (unhide HB3));have H3:=hide (unhide H2 w3 ((unhide HM).1.trans ((unhide HB5).mono (unhide HM).1.size))))
       | (go_at_call 38;refine (unhide H3).mono ?_;rintro e w4 ⟨rfl,HB4⟩;have hB6:=(unhide HB5).trans ((unhide HB4).mono (unhide HB5).size);have o0:=cell_be w0 hB6;have o1:=cell_be w1 hB6;have o2:=cell_be p0 hB6;have o3:=cell_be p1 hB6;obtain ⟨Y1,Y2,⟨i1,i2⟩,⟨k0,k1⟩,⟨l0,l1⟩,hY2,hYk,hYB,hYs⟩:=ans2 (unhide HM).2 hB6 (I p) (I q);have s0:Y2.cell? ⟨b,0,none⟩=some (P0 t):=cell_kp w0 (hYk b n1 hbl2);have s1:Y2.cell? ⟨b,1,none⟩=some (P0 m):=cell_kp w1 (hYk b n1 hbl2);have s2:Y2.cell? ⟨W.heap.size + 1,0,none⟩=some (I x):=cell_kp p0 (hYk _ (by omega) hlp);have s3:Y2.cell? ⟨W.heap.size + 1,1,none⟩=some (I y):=cell_kp p1 (hYk _ (by omega) hlp);have HY:=hide (⟨hY2,hYB _ _ ((unhide HM).1.trans (hB6.mono (unhide HM).1.size)) (Nat.le_refl _)⟩:_∧_);clear hY2 hYk hYB hYs hB6))
     rename_i hHeld
     clear hHeld q0 q1 q2 q3 o0 o1 o2 o3 i1 i2 k0 k1 l0 l1 H1 H2 H3 w0 w1 p0 p1 s0 s1 s2 s3 HB3 HB4 HB5
     obtain ⟨hY2,hYB⟩:=unhide HY
     have z0:Y2.cell? ⟨W.heap.size,0,none⟩=some (I p):=by rw [cell_of hY2];rfl
     have z1:Y2.cell? ⟨W.heap.size,1,none⟩=some (I q):=by rw [cell_of hY2];rfl
     have HYB:=hide hYB
     clear hYB hY2 HY
     go_wp2_with fail
     refine bodyPost_ret (v:=.agg #[I p,I q]) (by simp [results,Tryz.results233,go_sem,z0,z1]) rfl ?_
     exact ⟨rfl,unhide HYB⟩
theorem dots_any (D:Wd lo N mb W t m E) (hw:Wn W b t m E am an s) (hn:(kl an).wf=true) (p:Bytes) (hp:isDots p=true) (x y:Int) (hx:(E.dots p am an).1=x) (hy:(E.dots p am an).2=y) :
  Calls Tryz.prog 233 #[P0 b,.string (bs p)] W fun e w'=>e=.returned (.agg #[I x,I y])∧Below W.heap.size W w':=by
 simp only [isDots,Bool.or_eq_true,beq_iff_eq] at hp
 rcases hp with rfl | rfl
 ·have e:E.dots [46] am an=(am,an):=by rw [En.dots,if_pos (.inl rfl)]
  rw [e] at hx hy
  obtain rfl:am=x:=hx
  obtain rfl:an=y:=hy
  exact dots_here hw
 ·by_cases hr:am=E.rm∧an=E.rn
  ·have e:E.dots [46,46] am an=(am,an):=by rw [En.dots,if_pos (.inr hr)]
   rw [e] at hx hy
   obtain rfl:am=x:=hx
   obtain rfl:an=y:=hy
   exact dots_root hw hr
  ·have e:E.dots [46,46] am an=E.down (up E.es am an).1 (E.T.up (up E.es am an).2):=by rw [En.dots,if_neg (fun h=>h.elim (fun h=>by simp at h) hr)]
   rw [e] at hx hy
   exact dots_up D hw hn hr x y hx hy
end
attribute [local go_sem ↓] Go.wp_at_zero Go.wp_at_succ
theorem set3 {X:World} {b:Nat} {t:TypeId} {a0 a1 a2:Value} (h:X.heap[b]?=some (.cells #[a0,a1,a2] t)) (v0 v1 v2:Value) :
  ∃ X1 X2 Y,(X.setCell ⟨b,0,none⟩ v0=X1∧X1.setCell ⟨b,1,none⟩ v1=X2∧X2.setCell ⟨b,2,none⟩ v2=Y)∧(X.cell? ⟨b,0,none⟩=some a0∧X1.cell? ⟨b,1,none⟩=some a1∧X2.cell? ⟨b,2,none⟩=some a2)∧(X.frozen? ⟨b,0,none⟩=false∧X1.frozen? ⟨b,1,none⟩=false∧X2.frozen? ⟨b,2,none⟩=false) ∧
   Y.heap[b]?=some (.cells #[v0,v1,v2] t)∧(∀ B u,Below B u X→B≤b→Below B u Y)∧(∀ k,k≠b→Y.heap[k]?=X.heap[k]?)∧Y.heap.size=X.heap.size:=by
 have h1:=heap_set h 0 v0
 have h2:=heap_set h1 1 v1
 have h3:=heap_set h2 2 v2
 refine ⟨_,_,_,⟨rfl,rfl,rfl⟩,⟨?_,?_,?_⟩,⟨frozen_of h _,frozen_of h1 _,frozen_of h2 _⟩,h3,fun B u hu hb=>((hu.setCell (p:=⟨b,0,none⟩) hb _).setCell (p:=⟨b,1,none⟩) hb _).setCell (p:=⟨b,2,none⟩) hb _,fun k hk=>?_,by simp [World.setCell]⟩
 ·rw [cell_of h];rfl
 ·rw [cell_of h1];rfl
 ·rw [cell_of h2];rfl
 ·rw [Below.heap_setCell _ _ _ _ hk,Below.heap_setCell _ _ _ _ hk,Below.heap_setCell _ _ _ _ hk]
theorem cells3 {W:World} {b:Nat} {t:TypeId} {a0 a1 a2:Value} (h:W.heap[b]?=some (.cells #[a0,a1,a2] t)):W.cell? ⟨b,0,none⟩=some a0∧W.cell? ⟨b,1,none⟩=some a1∧W.cell? ⟨b,2,none⟩=some a2∧∀ i,W.frozen? ⟨b,i,none⟩=false:=by
 refine ⟨?_,?_,?_,frozen_of h⟩ <;> rw [cell_of h] <;> rfl
def zpa:Value:=.agg #[.bool false,.bool false,.slice none 0 0]
section
variable {W:World} {n:Nat}
theorem onward_40 (text:Bytes) (r sl:Bool) (pa:Addr) (cap:Nat) :
  Calls Tryz.prog 237 #[I 40,.string (bs text),.agg #[.bool r,.bool sl,.slice (some pa) n cap]] W fun e w'=>e=.returned (.tuple #[zpa,I 46])∧Below W.heap.size W w':=by
 obtain ⟨V,hV,g1,g2,hB,hs⟩:=two_new W (.cells #[.bool r,.bool sl,.slice (some pa) n cap] 234) (.cells #[.bool false,.bool false,.slice none 0 0] 234)
 obtain ⟨X1,X2,Y,⟨x1,x2,x3⟩,⟨c0,c1,c2⟩,⟨f0,f1,f2⟩,hY,hYB,-,-⟩:=set3 g2 (.bool false) (.bool false) (.slice none 0 0)
 obtain ⟨z0,z1,z2,-⟩:=cells3 hY
 have HY:=hide (hYB _ _ hB (by omega))
 clear hYB hY g1 g2 hB hs
 unfold zpa
 go_enter Tryz.func237,Tryz.ntmps237
 go_wp2_with fail
 refine bodyPost_ret (v:=.tuple #[.agg #[.bool false,.bool false,.slice none 0 0],I 46]) (by simp [results,Tryz.results237,go_sem,z0,z1,z2]) rfl ?_
 exact ⟨rfl,unhide HY⟩
theorem onward_nil (fol:Nat) (hf:fol < 40) (r sl:Bool) (pa:Addr) (cap:Nat) :
  Calls Tryz.prog 237 #[I (fol:Int),.string (bs []),.agg #[.bool r,.bool sl,.slice (some pa) n cap]] W fun e w'=>e=.returned (.tuple #[zpa,I 32])∧Below W.heap.size W w':=by
 obtain ⟨V,hV,g1,g2,hB,hs⟩:=two_new W (.cells #[.bool r,.bool sl,.slice (some pa) n cap] 234) (.cells #[.bool false,.bool false,.slice none 0 0] 234)
 obtain ⟨X1,X2,Y,⟨x1,x2,x3⟩,⟨c0,c1,c2⟩,⟨f0,f1,f2⟩,hY,hYB,-,-⟩:=set3 g2 (.bool false) (.bool false) (.slice none 0 0)
 obtain ⟨z0,z1,z2,-⟩:=cells3 hY
 have HY:=hide (hYB _ _ hB (by omega))
 have h40:¬ ((fol:Int)=40):=by omega
 clear hYB hY g1 g2 hB hs
 unfold zpa
 go_enter Tryz.func237,Tryz.ntmps237
 go_wp2_with fail
 refine bodyPost_ret (v:=.tuple #[.agg #[.bool false,.bool false,.slice none 0 0],I 32]) (by simp [results,Tryz.results237,go_sem,z0,z1,z2]) rfl ?_
 exact ⟨rfl,unhide HY⟩
theorem onward_long (fol:Nat) (hf:fol < 40) (c:UInt8) (l:Bytes) (hl:(c :: l).length≤281474976710656) (r sl:Bool) (pa:Addr) (cap:Nat) (rest:List Bytes) (hn:rest.length=n) (hrow:Nm.RowO W (some pa) rest) (hwt:Nm.wt rest≤10000) (hlong:4096 < (c :: l).length + (Nm.pw r sl rest).length) :
  Calls Tryz.prog 237 #[I (fol:Int),.string (bs (c :: l)),.agg #[.bool r,.bool sl,.slice (some pa) n cap]] W fun e w'=>e=.returned (.tuple #[zpa,I 45])∧Below W.heap.size W w':=by
 obtain ⟨V,hV,g1,g2,hB,hs⟩:=two_new W (.cells #[.bool r,.bool sl,.slice (some pa) n cap] 234) (.cells #[.bool false,.bool false,.slice none 0 0] 234)
 obtain ⟨p0,p1,p2,-⟩:=cells3 g1
 have HW:=hide (Nm.wr_any r sl rest n hn (some pa) cap V (hrow.below hB) (by omega))
 have hple:=Nm.wr_le r sl rest
 generalize Nm.pw r sl rest=pp at *
 have HG:=hide (⟨g2,hB,hs⟩:_∧_∧_)
 have h40:¬ ((fol:Int)=40):=by omega
 have hpp:pp.length≤20000:=by omega
 have hl1:l.length≤281474976710656:=by simp at hl;omega
 have hlo:(4096:Int) < (l.length:Int) + 1 + (pp.length:Int):=by simp at hlong;omega
 clear hl
 clear g1 g2 hB hs hrow hwt hn hple hlong
 unfold zpa
 go_enter Tryz.func237,Tryz.ntmps237
 go_wp2_with fail
 refine (unhide HW).mono ?_
 rintro e w3 ⟨rfl,hB3⟩
 obtain ⟨g2,hB,hs⟩:=unhide HG
 obtain ⟨X1,X2,Y,⟨x1,x2,x3⟩,⟨c0,c1,c2⟩,⟨f0,f1,f2⟩,hY,hYB,-,-⟩:=set3 ((hB3.block _ (by omega)).trans g2) (.bool false) (.bool false) (.slice none 0 0)
 obtain ⟨z0,z1,z2,-⟩:=cells3 hY
 have HY:=hide (hYB _ _ (hB.trans (hB3.mono (by omega))) (by omega))
 clear hYB hY g2 hB hs hB3 HW HG p0 p1 p2
 go_wp2_with fail
 refine bodyPost_ret (v:=.tuple #[.agg #[.bool false,.bool false,.slice none 0 0],I 45]) (by simp [results,Tryz.results237,go_sem,z0,z1,z2]) rfl ?_
 exact ⟨rfl,unhide HY⟩
end
end Go.Proofs.YtlngeaacjbdmhaaGreat.Wl
