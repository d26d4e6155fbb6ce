/-
 The contract of onward where the text is read.
-/
import Derived.Test.YtlngeaacjbdmhaaGreatPp16
set_option maxRecDepth 100000
set_option maxHeartbeats 1000000
namespace Go.Proofs.YtlngeaacjbdmhaaGreat.Wl
open Go.RowKit
attribute [local go_sem ↓] Go.wp_at_zero Go.wp_at_succ
section
variable {W:World} {n:Nat}
theorem onward_bad (fol:Nat) (hf:fol < 40) (c:UInt8) (l:Bytes) (r sl:Bool) (pa:Addr) (cap:Nat) (rest:List Bytes) (hn:rest.length=n) (hrow:Nm.RowO W (some pa) rest) (hwt:Nm.wt rest≤10000) (hlong:(c :: l).length + (Nm.pw r sl rest).length≤4096) (x:Int) (hx:Nm.err (c :: l)=x) (hx0:¬ x=0) :
  Calls Tryz.prog 237 #[I (fol:Int),.string (bs (c :: l)),.agg #[.bool r,.bool sl,.slice (some pa) n cap]] W fun e w'=>e=.returned (.tuple #[zpa,I x])∧Below W.heap.size W w':=by
 obtain ⟨V,hV,g1,g2,hB,hs⟩:=two_new W (.cells #[.bool r,.bool sl,.slice (some pa) n cap] 234) (.cells #[.bool false,.bool false,.slice none 0 0] 234)
 obtain ⟨p0,p1,p2,-⟩:=cells3 g1
 have HW:=hide (Nm.wr_any r sl rest n hn (some pa) cap V (hrow.below hB) (by omega))
 have HRd:=hide (Nm.read_any (c :: l))
 rw [hx] at HRd
 generalize Nm.pw r sl rest=pp at *
 have HG:=hide (⟨g2,hB,hs⟩:_∧_∧_)
 have h40:¬ ((fol:Int)=40):=by omega
 have hpp:pp.length≤4096:=by omega
 have hl1:l.length≤4096:=by simp at hlong;omega
 have hlo:¬ (4096:Int) < (l.length:Int) + 1 + (pp.length:Int):=by simp at hlong;omega
 clear g1 g2 hB hs hrow hwt hn hlong hx
 generalize Nm.rt (c :: l)=ro at *
 generalize Nm.sl (c :: l)=st at *
 generalize Nm.ps (c :: l)=ps at *
 unfold zpa
 go_enter Tryz.func237,Tryz.ntmps237
 go_wp2_with fail
 refine (unhide HW).mono ?_
 rintro e w3 ⟨rfl,hB3⟩
 have HB3:=hide hB3
 clear hB3 HW p0 p1 p2
 go_wp2_with fail
 refine (unhide HRd w3).mono ?_
 rintro e w4 ⟨v,rfl,own,hB4⟩
 obtain ⟨a,vc,rfl⟩:=Nm.own_form own
 obtain ⟨g2,hB,hs⟩:=unhide HG
 have hB3:=unhide HB3
 obtain ⟨Z,hZ,gZ,hBZ⟩:∃ Z,w4.alloc (.cells #[.bool ro,.bool st,.slice a ps.length vc] 234)=Z∧Z.heap[w4.heap.size]?=some (.cells #[.bool ro,.bool st,.slice a ps.length vc] 234)∧Below w4.heap.size w4 Z:=⟨_,rfl,heap_alloc_new _ _,(Below.refl _ _).alloc (Nat.le_refl _) _⟩
 have hBVZ:Below V.heap.size V Z:=hB3.trans ((hB4.mono hB3.size).trans (hBZ.mono (Nat.le_trans hB3.size hB4.size)))
 obtain ⟨X1,X2,Y,⟨x1,x2,x3⟩,⟨c0,c1,c2⟩,⟨f0,f1,f2⟩,hY,hYB,-,-⟩:=set3 ((hBVZ.block _ (by omega)).trans g2) (.bool false) (.bool false) (.slice none 0 0)
 obtain ⟨z0,z1,z2,-⟩:=cells3 hY
 have HY:=hide (hYB _ _ (hB.trans (hBVZ.mono (by omega))) (by omega))
 have hx1:(x != 0)=true:=by simpa using hx0
 clear hYB hY g2 hB hs hB3 hB4 HB3 HG own gZ hBZ hBVZ HRd
 go_wp2_with fail
 refine bodyPost_ret (v:=.tuple #[.agg #[.bool false,.bool false,.slice none 0 0],I x]) (by simp [results,Tryz.results237,go_sem,z0,z1,z2]) rfl ?_
 exact ⟨rfl,unhide HY⟩
theorem onward_yes (fol:Nat) (hf:fol < 40) (c:UInt8) (l:Bytes) (r sl:Bool) (pb po:Nat) (cap:Nat) (rest:List Bytes) (hn:rest.length=n) (hrow:Nm.RowO W (some ⟨pb,po,none⟩) rest) (hwt:Nm.wt rest≤10000) (hlong:(c :: l).length + (Nm.pw r sl rest).length≤4096) (hx:Nm.err (c :: l)=0) :
  Calls Tryz.prog 237 #[I (fol:Int),.string (bs (c :: l)),.agg #[.bool r,.bool sl,.slice (some ⟨pb,po,none⟩) n cap]] W fun e w'=>∃ v,e=.returned (.tuple #[.agg #[.bool (onP (c :: l) sl rest).root,.bool (onP (c :: l) sl rest).slash,v],I 0])∧w'.ownsRow W.heap.size 9 1 v (onP (c :: l) sl rest).parts.length (Nm.strs (onP (c :: l) sl rest).parts)∧Below W.heap.size W w':=by
 obtain ⟨V,hV,g1,g2,hB,hs⟩:=two_new W (.cells #[.bool r,.bool sl,.slice (some ⟨pb,po,none⟩) n cap] 234) (.cells #[.bool false,.bool false,.slice none 0 0] 234)
 obtain ⟨p0,p1,p2,-⟩:=cells3 g1
 have HW:=hide (Nm.wr_any r sl rest n hn (some ⟨pb,po,none⟩) cap V (hrow.below hB) (by omega))
 have HRd:=hide (Nm.read_any (c :: l))
 rw [hx] at HRd
 have hpl:(Nm.ps (c :: l)).length≤4098:=by
  have h1:=Nm.parts_le (c :: l)
  unfold Nm.ps
  rw [if_pos hx]
  omega
 have hrl:rest.length≤10000:=by
  have h2:∀ q:List (List UInt8),q.length≤Nm.wt q:=by
   intro q
   induction q with
   | nil=>simp
   | cons p r ih=>simp [Nm.wt];omega
  have:=h2 rest
  omega
 generalize Nm.pw r sl rest=pp at *
 have HG:=hide (⟨g1,g2,hB,hs,hrow⟩:_∧_∧_∧_∧_)
 have h40:¬ ((fol:Int)=40):=by omega
 have hpp:pp.length≤4096:=by omega
 have hl1:l.length≤4096:=by simp at hlong;omega
 have hlo:¬ (4096:Int) < (l.length:Int) + 1 + (pp.length:Int):=by simp at hlong;omega
 have Hn:=hide hn
 clear g1 g2 hB hs hrow hwt hn hlong hx
 show Calls _ _ _ _ fun e w'=>∃ v,e=.returned (.tuple #[.agg #[.bool (Nm.rt (c :: l)),.bool (sl || (Nm.sl (c :: l) && rest.isEmpty)),v],I 0])∧w'.ownsRow W.heap.size 9 1 v (Nm.ps (c :: l) ++ rest).length (Nm.strs (Nm.ps (c :: l) ++ rest))∧Below W.heap.size W w'
 generalize Nm.rt (c :: l)=ro at *
 generalize Nm.sl (c :: l)=st at *
 generalize Nm.ps (c :: l)=ps at *
 obtain ⟨ns,hns⟩:∃ ns,ns=(sl || (st && rest.isEmpty)):=⟨_,rfl⟩
 rw [← hns]
 go_enter Tryz.func237,Tryz.ntmps237
 go_wp2_with fail
 refine (unhide HW).mono ?_
 rintro e w3 ⟨rfl,hB3⟩
 have HB3:=hide hB3
 clear hB3 HW p0 p1 p2
 go_wp2_with fail
 refine (unhide HRd w3).mono ?_
 rintro e w4 ⟨v,rfl,own,hB4⟩
 obtain ⟨a,vc,rfl⟩:=Nm.own_form own
 obtain ⟨g1,g2,hB,hs,hrow⟩:=unhide HG
 have hB3:=unhide HB3
 obtain ⟨Z,hZ,gZ,hBZ⟩:∃ Z,w4.alloc (.cells #[.bool ro,.bool st,.slice a ps.length vc] 234)=Z∧Z.heap[w4.heap.size]?=some (.cells #[.bool ro,.bool st,.slice a ps.length vc] 234)∧Below w4.heap.size w4 Z:=⟨_,rfl,heap_alloc_new _ _,(Below.refl _ _).alloc (Nat.le_refl _) _⟩
 have hBVZ:Below V.heap.size V Z:=hB3.trans ((hB4.mono hB3.size).trans (hBZ.mono (Nat.le_trans hB3.size hB4.size)))
 have hs4:V.heap.size≤w4.heap.size:=Nat.le_trans hB3.size hB4.size
 have ownZ:Z.ownsRow W.heap.size 9 1 (.slice a ps.length vc) ps.length (Nm.strs ps):=Nm.own_keep (Nm.own_base own (Nat.le_trans (by omega) hB3.size)) fun k cur hc=>hBZ.block k (lt_of_heap hc)
 have b1:=(hBVZ.block _ (by omega)).trans g1
 have b2:=(hBVZ.block _ (by omega)).trans g2
 obtain ⟨q0,q1,q2,qf⟩:=cells3 b1
 obtain ⟨k0,k1,k2,kf⟩:=cells3 gZ
 have HM:=hide (⟨b2,gZ,hB.trans (hBVZ.mono (by omega)),ownZ,hrow,hs4,hs,b1⟩:_∧_∧_∧_∧_∧_∧_∧_)
 have hPl:w4.heap.size < Z.heap.size:=lt_of_heap gZ
 have hne1:W.heap.size≠w4.heap.size:=by omega
 clear g1 g2 hB hs hB3 hB4 HB3 HG own gZ hBZ hBVZ HRd hrow ownZ b1 b2
 have hne2:w4.heap.size≠W.heap.size:=by omega
 go_upto_region 10 with fail
 go_cut [] from 36 to 48 (fun wc=>wc=Z.setCell ⟨w4.heap.size,1,none⟩ (.bool ns))
 case first =>
  cases sl with
  | true =>
   obtain rfl:ns=true:=by simpa using hns
   clear hns
   go_wp2_with fail
   go_meet
   case rel=>rfl
  | false =>
   cases st with
   | false =>
    obtain rfl:ns=false:=by simpa using hns
    clear hns
    go_wp2_with fail
    go_meet
    case rel=>rfl
   | true =>
    by_cases h0:n=0
    ·have hre:rest=[]:=List.eq_nil_of_length_eq_zero ((unhide Hn).trans h0)
     obtain rfl:ns=true:=by rw [hns,hre];rfl
     subst h0
     clear hns hre
     go_wp2_with fail
     go_meet
     case rel=>rfl
    ·have hre:rest.isEmpty=false:=by
      cases rest with
      | nil=>exact absurd (unhide Hn).symm h0
      | cons _ _=>rfl
     obtain rfl:ns=false:=by rw [hns,hre];rfl
     have h1:((n:Int) == 0)=false:=by simpa using h0
     have h2:¬ (n:Int)=0:=by omega
     clear hns hre
     go_wp2_with fail
     go_meet
     case rel=>rfl
 case rest =>
  obtain ⟨b2,gZ,hBZ,ownZ,hrow0,hs4,hs,b1⟩:=unhide HM
  obtain ⟨Y1,hY1⟩:∃ Y1,Y1=Z.setCell ⟨w4.heap.size,1,none⟩ (.bool ns):=⟨_,rfl⟩
  rw [← hY1] at hcut
  have hP1:Y1.heap[w4.heap.size]?=some (.cells #[.bool ro,.bool ns,.slice a ps.length vc] 234):=by rw [hY1,heap_set gZ];rfl
  have hk1:∀ k,k≠w4.heap.size→Y1.heap[k]?=Z.heap[k]?:=fun k hk=>by rw [hY1];exact Below.heap_setCell _ _ _ _ hk
  have hsz1:Y1.heap.size=Z.heap.size:=by rw [hY1];simp [World.setCell]
  have hB1:Below W.heap.size W Y1:=by rw [hY1];exact hBZ.setCell (p:=⟨w4.heap.size,1,none⟩) (by show W.heap.size≤w4.heap.size;omega) _
  have own1:Y1.ownsRow W.heap.size 9 1 (.slice a ps.length vc) ps.length (Nm.strs ps):=Nm.own_keep ownZ fun k cur hc=>hk1 k fun e=>by rw [e,gZ] at hc;simp at hc
  have b11:=(hk1 _ hne1).trans b1
  have b21:=(hk1 _ (by omega)).trans b2
  obtain ⟨i0,hi,hz0,hz1,hz2⟩:=info_parts Nm.info9
  have hnl:=unhide Hn
  obtain ⟨v',W6,hrun,own6,hgr,-,-⟩:=run_append_own_at (P:=Tryz.prog) Y1 W.heap.size 55 55 9 i0 (.string ByteArray.empty) 1 16 Tryz.underlying55 hi hz0 hz1 hz2 rfl (by decide) (.slice a ps.length vc) _ _ own1 ⟨pb,po,none⟩ n cap (Nm.strs rest)
   (by simp [Nm.strs,hnl])
   (by
    intro j u hj
    obtain ⟨q,hq,rfl⟩:∃ q,rest[j]?=some q∧Nm.S q=u:=by
     simp only [Nm.strs,List.getElem?_map,Option.map_eq_some_iff] at hj
     exact hj
    obtain ⟨b',off',e1,hlt,hc⟩:=hrow0 j q hq
    simp only [Option.some.injEq,Addr.mk.injEq] at e1
    obtain ⟨rfl,rfl,-⟩:=e1
    have hne:pb≠w4.heap.size:=by omega
    rw [show (⟨pb,po,none⟩:Addr).add j=⟨pb,po + j,none⟩ by unfold Addr.add;split <;> simp_all]
    exact cell_kp (cell_be hc hBZ) (hk1 pb hne))
   (by intro u hu;simp only [Nm.strs,List.mem_map] at hu;obtain ⟨q,_,rfl⟩:=hu;rfl) (by unfold maxLen;omega) (by omega) (by have:=hB1.size;omega)
  obtain ⟨a6,c6,rfl⟩:=Nm.own_form own6
  have hk6:∀ {k:Nat} {cs:Array Value},Y1.heap[k]?=some (.cells cs 234)→W6.heap[k]?=some (.cells cs 234):=fun {k cs} hk=>(hgr.block k (lt_of_heap hk) (Nm.own_ne own1 hk (by intro cur;simp))).trans hk
  have P6:=hk6 hP1
  have B16:=hk6 b11
  have B26:=hk6 b21
  have hB6:Below W.heap.size W W6:=Nm.below_grown hB1 own1 hgr hB1.size
  obtain ⟨l0,l1,l2,lf⟩:=cells3 hP1
  obtain ⟨m0,m1,m2,mf⟩:=cells3 b11
  obtain ⟨o0,o1,o2,of⟩:=cells3 P6
  have of2:=of 2
  obtain ⟨Y2,hY2⟩:∃ Y2,W6.setCell ⟨w4.heap.size,2,none⟩ (.slice a6 (ps.length + n) c6)=Y2:=⟨_,rfl⟩
  have P7:Y2.heap[w4.heap.size]?=some (.cells #[.bool ro,.bool ns,.slice a6 (ps.length + n) c6] 234):=by rw [← hY2,heap_set P6];rfl
  have hk7:∀ k,k≠w4.heap.size→Y2.heap[k]?=W6.heap[k]?:=fun k hk=>by rw [← hY2];exact Below.heap_setCell _ _ _ _ hk
  have B27:=(hk7 (W.heap.size + 1) (by omega)).trans B26
  obtain ⟨d0,d1,d2,df⟩:=cells3 P7
  obtain ⟨X1,X2,Y,⟨x1,x2,x3⟩,⟨c0,c1,c2⟩,⟨f0,f1,f2⟩,hY,hYB,hYk,-⟩:=set3 B27 (.bool ro) (.bool ns) (.slice a6 (ps.length + n) c6)
  obtain ⟨z0,z1,z2,-⟩:=cells3 hY
  have hB7:Below W.heap.size W Y2:=by rw [← hY2];exact hB6.setCell (p:=⟨w4.heap.size,2,none⟩) (by show W.heap.size≤w4.heap.size;omega) _
  have own8:Y.ownsRow W.heap.size 9 1 (.slice a6 (ps.length + n) c6) (ps.length + n) (Nm.strs ps ++ Nm.strs rest):=Nm.own_keep own6 fun k cur hc=>by
   have e1:k≠w4.heap.size:=by rintro rfl;rw [P6] at hc;simp at hc
   have e2:k≠W.heap.size + 1:=by rintro rfl;rw [B26] at hc;simp at hc
   rw [hYk k e2,hk7 k e1]
  have HF:=hide (⟨own8,hYB _ _ hB7 (by omega)⟩:_∧_)
  have HL:=hide (by simp [hnl]:(ps ++ rest).length=ps.length + n)
  have HS:=hide (by simp:Nm.strs (ps ++ rest)=Nm.strs ps ++ Nm.strs rest)
  rw [hcut]
  clear hcut hY1 hk1 hsz1 hB1 own1 b11 b21 hgr hk6 own6 P6 B16 B26 hB6 hP1 P7 hk7 B27 hY hYB hYk hB7 own8 b2 gZ hBZ ownZ hrow0 hs4 hs b1 HM hi hz0 hz1 hz2 lf mf of df k0 k1 k2 kf q0 q1 q2 qf hZ hV hnl Hn hns
  generalize ps.length=pl at *
  go_wp2_with (at_builtin;refine wpList_append_eq rfl _ _ 55 rfl 55 rfl _ _ rfl rfl _ _ hrun ?_)
  go_wp2_with fail
  refine bodyPost_ret (v:=.tuple #[.agg #[.bool ro,.bool ns,.slice a6 (pl + n) c6],I 0]) (by simp [results,Tryz.results237,go_sem,z0,z1,z2]) rfl ?_
  obtain ⟨h1,h2⟩:=unhide HF
  exact ⟨_,rfl,by rw [unhide HL,unhide HS];exact h1,h2⟩
end
attribute [local go_sem ↓] Go.wp_at_zero Go.wp_at_succ
theorem onward_any {W:World} {n:Nat} (fol:Nat) (hf:fol≤40) (text:Bytes) (hl:text.length≤281474976710656) (sl:Bool) (pb po cap:Nat) (rest:List Bytes) (hn:rest.length=n) (hrow:Nm.RowO W (some ⟨pb,po,none⟩) rest) (hwt:Nm.wt rest≤10000) (x:Int) (hx:onE fol text sl rest=x) :
  Calls Tryz.prog 237 #[I (fol:Int),.string (bs text),.agg #[.bool false,.bool sl,.slice (some ⟨pb,po,none⟩) n cap]] W fun e w'=>∃ ro ns a k c,e=.returned (.tuple #[.agg #[.bool ro,.bool ns,.slice a k c],I x])∧Hid (x=0→ro=(onP text sl rest).root∧ns=(onP text sl rest).slash∧k=(onP text sl rest).parts.length∧w'.ownsRow W.heap.size 9 1 (.slice a k c) (onP text sl rest).parts.length (Nm.strs (onP text sl rest).parts))∧Hid (Below W.heap.size W w'):=by
 by_cases h40:fol=40
 ·subst h40
  obtain rfl:(46:Int)=x:=by rw [← hx];simp [onE]
  refine (onward_40 text false sl ⟨pb,po,none⟩ cap).mono ?_
  rintro e w' ⟨rfl,hB⟩
  exact ⟨false,false,none,0,0,rfl,hide (fun h=>absurd h (by decide)),hide hB⟩
 ·have hf':fol < 40:=by omega
  cases text with
  | nil =>
   obtain rfl:(32:Int)=x:=by rw [← hx];simp [onE,h40]
   refine (onward_nil fol hf' false sl ⟨pb,po,none⟩ cap).mono ?_
   rintro e w' ⟨rfl,hB⟩
   exact ⟨false,false,none,0,0,rfl,hide (fun h=>absurd h (by decide)),hide hB⟩
  | cons c l =>
   by_cases hlg:4096 < (c :: l).length + (Nm.pw false sl rest).length
   ·obtain rfl:(45:Int)=x:=by rw [← hx,onE,if_neg h40,if_neg (by simp),if_pos hlg]
    refine (onward_long fol hf' c l hl false sl ⟨pb,po,none⟩ cap rest hn hrow hwt hlg).mono ?_
    rintro e w' ⟨rfl,hB⟩
    exact ⟨false,false,none,0,0,rfl,hide (fun h=>absurd h (by decide)),hide hB⟩
   ·have hx':Nm.err (c :: l)=x:=by rw [← hx,onE,if_neg h40,if_neg (by simp),if_neg hlg]
    by_cases h0:x=0
    ·subst h0
     refine (onward_yes fol hf' c l false sl pb po cap rest hn hrow hwt (by omega) hx').mono ?_
     rintro e w' ⟨v,rfl,own,hB⟩
     obtain ⟨a,k,rfl⟩:=Nm.own_form own
     exact ⟨_,_,a,_,k,rfl,hide (fun _=>⟨rfl,rfl,rfl,own⟩),hide hB⟩
    ·refine (onward_bad fol hf' c l false sl ⟨pb,po,none⟩ cap rest hn hrow hwt (by omega) x hx' h0).mono ?_
     rintro e w' ⟨rfl,hB⟩
     exact ⟨false,false,none,0,0,rfl,hide (fun h=>absurd h h0),hide hB⟩
theorem onP_wt {fol:Nat} {text:Bytes} {sl:Bool} {rest:List Bytes} (h:onE fol text sl rest=0):Nm.wt (onP text sl rest).parts≤5000:=by
 unfold onE at h
 split at h
 ·omega
 ·split at h
  ·omega
  ·split at h
   ·omega
   ·rename_i h1 h2 h3
    show Nm.wt (Nm.ps text ++ rest)≤5000
    rw [Nm.wt_app]
    have e1:Nm.ps text=Nm.parts text:=by rw [Nm.ps,if_pos h]
    have e2:=Nm.wt_parts _ text (Nat.le_refl _)
    have e3:Nm.ende text≤1:=by unfold Nm.ende;split <;> omega
    have e4:Nm.wt rest≤(Nm.pw false sl rest).length + 1:=by
     by_cases h4:rest=[]
     ·subst h4;simp [Nm.wt]
     ·have:=Nm.join_len rest h4
      unfold Nm.pw
      simp
      omega
    rw [e1]
    omega
section
variable {lo N mb:Nat} {W W':World} {t m b:Nat} {E:En} {am an:Int} {s:Nat}
theorem Wd.fr (h:Wd lo N mb W t m E) (hb:Wn W b t m E am an s) (F:Fr [b] W W'):Wd lo N mb W' t m E:=by
 refine ⟨h.tp.keep F.size (fun k es c e=>F.blk k (lt_of_heap e) ?_) (fun k cs ty f e ht=>F.blk k (lt_of_heap e) ?_),h.wk,h.ls.keep fun k cur ty hc ht=>F.blk k (lt_of_heap hc) ?_,h.el,h.le,h.wf⟩
 ·simp
  rintro rfl
  rw [hb] at e
  cases e
 ·simp
  rintro rfl
  rw [hb] at e
  cases e
  rcases ht with h1 | h1 | h1 | h1 | h1 <;> simp at h1
 ·simp
  rintro rfl
  rw [hb] at hc
  simp at hc
  rcases ht with h1 | h1
  ·obtain ⟨a,cap,h2,_⟩:=h.ls.hb
   subst h1
   rw [hb] at h2
   simp at h2
  ·rw [h1] at hc
   simp at hc
theorem Wn.moved (h:Wn W b t m E am an s) (x y:Int):∃ X1 X2:World,(W.setCell ⟨b,6,none⟩ (I x)=X1∧X1.setCell ⟨b,7,none⟩ (I y)=X2)∧(X1.cell? ⟨b,7,none⟩=some (I an)∧X1.frozen? ⟨b,7,none⟩=false)∧Wn X2 b t m E x y s∧Fr [b] W X2∧X2.heap.size=W.heap.size:=by
 have h1:=heap_set h 6 (I x)
 have h2:=heap_set h1 7 (I y)
 refine ⟨_,_,⟨rfl,rfl⟩,⟨by rw [cell_of h1];rfl,frozen_of h1 7⟩,h2,?_,by simp [World.setCell]⟩
 exact ((Fr.refl [b] W).set (a:=⟨b,6,none⟩) (by simp) _).set (a:=⟨b,7,none⟩) (by simp) _
theorem Wn.step (h:Wn W b t m E am an s):∃ X:World,W.setCell ⟨b,8,none⟩ (I ((s:Int) + 1))=X∧Wn X b t m E am an (s + 1)∧Fr [b] W X∧X.heap.size=W.heap.size:=by
 have h1:=heap_set h 8 (I ((s:Int) + 1))
 refine ⟨_,rfl,?_,(Fr.refl [b] W).set (a:=⟨b,8,none⟩) (by simp) _,by simp [World.setCell]⟩
 rw [Wn,h1]
 simp [wkC]
def Rw (W:World) (a:Option Addr) (ps:List Bytes):Prop:=ps=[] ∨ ∃ bb oo cur,a=some ⟨bb,oo,none⟩∧W.heap[bb]?=some (.cells cur 9)∧∀ (j:Nat) (q:Bytes),ps[j]?=some q→cur[oo + j]?=some (Nm.S q)
theorem Rw.keep {a:Option Addr} {ps:List Bytes} (h:Rw W a ps) (hk:∀ (k:Nat) (cur:Array Value),W.heap[k]?=some (.cells cur 9)→W'.heap[k]?=W.heap[k]?):Rw W' a ps:=by
 rcases h with h | ⟨bb,oo,cur,h1,h2,h3⟩
 ·exact .inl h
 ·exact .inr ⟨bb,oo,cur,h1,(hk bb cur h2).trans h2,h3⟩
theorem Rw.of_own {base:Nat} {a:Option Addr} {m n cap:Nat} {ps:List Bytes} (h:W.ownsRow base 9 1 (.slice a m cap) n (Nm.strs ps)):Rw W a ps:=by
 by_cases h0:n=0
 ·left
  have:=h.1
  simp [h0] at this
  exact this
 ·right
  obtain ⟨hl,⟨e1,hz⟩ | ⟨g,cap',cur,e1,_,hg,hcap,hcm,hcs,htk⟩⟩:=h
  ·omega
  ·simp only [Value.slice.injEq] at e1
   refine ⟨g,0,cur,e1.1,hg,fun j q hj=>?_⟩
   have hj2:=(List.getElem?_eq_some_iff.1 hj).1
   have hj3:(Nm.strs ps)[j]?=some (Nm.S q):=by simp [Nm.strs,hj]
   simp at hl
   rw [← htk,List.getElem?_take_of_lt (by omega)] at hj3
   simpa using hj3
theorem Rw.row {a:Option Addr} {ps:List Bytes} (h:Rw W a ps):Nm.RowO W a ps:=by
 intro k q hk
 rcases h with h | ⟨bb,oo,cur,h1,h2,h3⟩
 ·rw [h] at hk;simp at hk
 ·exact ⟨bb,oo,h1,lt_of_heap h2,by rw [cell_of h2];exact h3 k q hk⟩
theorem Rw.rest {a:Option Addr} {ps:List Bytes} (h:Rw W a ps) {i:Nat} (hi:i < ps.length) {cap:Nat} (hc:ps.length≤cap):∃ bb oo pp,a=some ⟨bb,oo,none⟩∧W.cell? ⟨bb,oo + i,none⟩=(ps[i]?).map Nm.S∧(if cap=i + 1 then some (⟨bb,oo,none⟩:Addr) else some ⟨bb,oo + (i + 1),none⟩)=some ⟨bb,pp,none⟩∧Nm.RowO W (some ⟨bb,pp,none⟩) (ps.drop (i + 1)):=by
 rcases h with h | ⟨bb,oo,cur,h1,h2,h3⟩
 ·rw [h] at hi;simp at hi
 ·have hq:∃ q,ps[i]?=some q:=⟨_,List.getElem?_eq_getElem hi⟩
  obtain ⟨q,hq⟩:=hq
  by_cases hcp:cap=i + 1
  ·refine ⟨bb,oo,oo,h1,by rw [cell_of h2,h3 i q hq,hq];rfl,by rw [if_pos hcp],fun k z hz=>?_⟩
   rw [List.drop_eq_nil_of_le (by omega)] at hz
   simp at hz
  ·refine ⟨bb,oo,oo + (i + 1),h1,by rw [cell_of h2,h3 i q hq,hq];rfl,by rw [if_neg hcp],fun k z hz=>⟨bb,oo + (i + 1),rfl,lt_of_heap h2,?_⟩⟩
   rw [List.getElem?_drop] at hz
   rw [cell_of h2,Nat.add_assoc]
   exact h3 _ z hz
structure AL (E:En) (W wr:World) (b t m:Nat) (am an:Int) (s:Nat) (p:Pa) (a:Option Addr) (cap:Nat):Prop where
 wn:Wn wr b t m E am an s
 pa:wr.heap[W.heap.size]?=some (.cells #[.bool p.root,.bool p.slash,.slice a p.parts.length cap] 234)
 fd:wr.heap[W.heap.size + 1]?=some zfd
 row:Rw wr a p.parts
 le:p.parts.length≤cap
 mx:cap≤maxLen
 fr:Fr [b] W wr
 bw:b < W.heap.size
 wf:(kl an).wf=true
 wt:Nm.wt p.parts≤5000
theorem wt_len (q:List Bytes):q.length≤Nm.wt q:=by
 induction q with
 | nil=>simp
 | cons p r ih=>simp [Nm.wt];omega
theorem wt_drop (q:List Bytes) (i:Nat):Nm.wt (q.drop i)≤Nm.wt q:=by
 induction q generalizing i with
 | nil=>simp
 | cons p r ih =>
  cases i with
  | zero=>simp
  | succ i=>have:=ih i;simp [Nm.wt];omega
variable {wr wr':World} {p:Pa} {a:Option Addr} {cap:Nat}
theorem AL.below (h:AL E W wr b t m am an s p a cap) (g:Below wr.heap.size wr wr'):AL E W wr' b t m am an s p a cap :=
 ⟨h.wn.below g,(g.block _ (lt_of_heap h.pa)).trans h.pa,(g.block _ (lt_of_heap h.fd)).trans h.fd,h.row.keep fun k _ e=>g.block k (lt_of_heap e),h.le,h.mx,h.fr.trans (Fr.of_below g),h.bw,h.wf,h.wt⟩
theorem AL.turn (h:AL E W wr b t m am an s p a cap) {dd:Nat} {cs:Array Value} (hdd:wr.heap[dd]?=some (.cells cs 50)) (hd:W.heap.size + 2≤dd) {am' an':Int} {s':Nat} (hw:Wn wr' b t m E am' an' s') (F:Fr [b,dd] wr wr') (hwf:(kl an').wf=true):AL E W wr' b t m am' an' s' p a cap:=by
 have hb:=h.bw
 refine ⟨hw,(F.blk _ (lt_of_heap h.pa) (by simp;omega)).trans h.pa,(F.blk _ (lt_of_heap h.fd) (by simp;omega)).trans h.fd,h.row.keep fun k cur e=>F.blk k (lt_of_heap e) ?_,h.le,h.mx,h.fr.step F (by simp;omega),hb,hwf,h.wt⟩
 simp
 refine ⟨?_,?_⟩
 ·rintro rfl
  have:=h.wn
  rw [Wn,e] at this
  simp at this
 ·rintro rfl
  rw [hdd] at e
  simp at e
theorem AL.walk (h:AL E W wr b t m am an s p a cap) {am' an':Int} {s':Nat} (hw:Wn wr' b t m E am' an' s') (F:Fr [b] wr wr') (hwf:(kl an').wf=true):AL E W wr' b t m am' an' s' p a cap:=by
 have hb:=h.bw
 refine ⟨hw,(F.blk _ (lt_of_heap h.pa) (by simp;omega)).trans h.pa,(F.blk _ (lt_of_heap h.fd) (by simp;omega)).trans h.fd,h.row.keep fun k cur e=>F.blk k (lt_of_heap e) ?_,h.le,h.mx,h.fr.trans F,hb,hwf,h.wt⟩
 simp
 rintro rfl
 have:=h.wn
 rw [Wn,e] at this
 simp at this
theorem AL.d (h:AL E W wr b t m am an s p a cap) (D:Wd lo N mb W t m E) {am0 an0:Int} {s0:Nat} (hw0:Wn W b t m E am0 an0 s0):Wd lo N mb wr t m E:=D.fr hw0 h.fr
theorem AL.fin (h:AL E W wr b t m am an s p a cap) {w3 Y:World} (hB:Below wr.heap.size wr w3) (hY:Below (W.heap.size + 1) w3 Y):Wn Y b t m E am an s∧Fr [b] W Y:=by
 have hb:=h.bw
 have h1:=h.below hB
 have hl:=lt_of_heap h1.fd
 refine ⟨(hY.block b (by omega)).trans h1.wn,⟨hY.os.trans h1.fr.os,hY.tape.trans h1.fr.tape,hY.output.trans h1.fr.output,Nat.le_trans h1.fr.size hY.size,fun k hk hn=>(hY.block k (by omega)).trans (h1.fr.blk k hk hn)⟩⟩
theorem En.run_done (E:En) {fol:Nat} (hf:fol≤40) {p:Pa} {am an:Int} {s:Nat} (h:(E.one fol p am an s).next=none):E.run (40 - fol) p am an s=E.one fol p am an s:=by
 rcases Nat.lt_or_ge fol 40 with h1 | h1
 ·obtain ⟨k,hk⟩:∃ k,40 - fol=k + 1:=⟨39 - fol,by omega⟩
  have e:40 - (k + 1)=fol:=by omega
  rw [hk,En.run,e,h]
 ·obtain rfl:fol=40:=by omega
  rfl
theorem En.run_next (E:En) {fol:Nat} (hf:fol≤40) {p q:Pa} {am an:Int} {s:Nat} (h:(E.one fol p am an s).next=some q):fol < 40∧E.run (40 - fol) p am an s=E.run (40 - (fol + 1)) q (E.one fol p am an s).am (E.one fol p am an s).an (E.one fol p am an s).steps:=by
 rcases Nat.lt_or_ge fol 40 with h1 | h1
 ·obtain ⟨k,hk⟩:∃ k,40 - fol=k + 1:=⟨39 - fol,by omega⟩
  have e:40 - (k + 1)=fol:=by omega
  have e2:40 - (fol + 1)=k:=by omega
  refine ⟨h1,?_⟩
  rw [hk,En.run,e,h,e2]
 ·obtain rfl:fol=40:=by omega
  have:=E.par_last p.slash p.parts (E.beg p am an).1 (E.beg p am an).2 [] (E.beg p am an).1 (E.beg p am an).2 s
  rw [En.one,this] at h
  cases h
structure On (wc Y:World) (bn:Nat) (ro ns:Bool) (a7:Option Addr) (k7 c7:Nat) (x0:Int) (q:Pa):Prop where
 g:Y.heap[bn]?=some (.cells #[.bool ro,.bool ns,.slice a7 k7 c7] 234)
 be:Below wc.heap.size wc Y
 le:wc.heap.size≤bn
 ok:x0=0→ro=q.root∧ns=q.slash∧k7=q.parts.length∧Y.ownsRow wc.heap.size 9 1 (.slice a7 k7 c7) q.parts.length (Nm.strs q.parts)
theorem On.ahead {wc V w7:World} {bn:Nat} {ro ns:Bool} {a7:Option Addr} {k7 c7:Nat} {x0:Int} {q:Pa} (hB:Below wc.heap.size wc V) (g:V.heap[bn]?=some (.cells #[.bool false,.bool false,.slice none 0 0] 234)) (hl:wc.heap.size≤bn) (h7:Below V.heap.size V w7) (hx:x0=0→ro=q.root∧ns=q.slash∧k7=q.parts.length∧w7.ownsRow V.heap.size 9 1 (.slice a7 k7 c7) q.parts.length (Nm.strs q.parts)) :
  ∃ X1 X2 Y,(w7.setCell ⟨bn,0,none⟩ (.bool ro)=X1∧X1.setCell ⟨bn,1,none⟩ (.bool ns)=X2∧X2.setCell ⟨bn,2,none⟩ (.slice a7 k7 c7)=Y)∧(w7.cell? ⟨bn,0,none⟩=some (.bool false)∧X1.cell? ⟨bn,1,none⟩=some (.bool false)∧X2.cell? ⟨bn,2,none⟩=some (.slice none 0 0))∧(w7.frozen? ⟨bn,0,none⟩=false∧X1.frozen? ⟨bn,1,none⟩=false∧X2.frozen? ⟨bn,2,none⟩=false) ∧
   Hid (On wc Y bn ro ns a7 k7 c7 x0 q)∧(∀ k,k < wc.heap.size→Y.heap[k]?=wc.heap[k]?)∧Below wc.heap.size wc w7:=by
 have g7:=(h7.block _ (lt_of_heap g)).trans g
 have hBw:=hB.trans (h7.mono hB.size)
 obtain ⟨X1,X2,Y,h1,h2,h3,hYb,hYB,hYk,hYs⟩:=set3 g7 (.bool ro) (.bool ns) (.slice a7 k7 c7)
 refine ⟨X1,X2,Y,h1,h2,h3,⟨hYb,hYB _ _ hBw hl,hl,fun h0=>?_⟩,fun k hk=>(hYk k (by omega)).trans (hBw.block k hk),hBw⟩
 obtain ⟨e1,e2,e3,own⟩:=hx h0
 refine ⟨e1,e2,e3,Nm.own_keep (Nm.own_base own hB.size) fun k cur hc=>hYk k ?_⟩
 rintro rfl
 rw [g7] at hc
 simp at hc
theorem On.behind {wc V w7:World} {ro ns:Bool} {a7:Option Addr} {k7 c7:Nat} {x0:Int} {q:Pa} (hB:Below wc.heap.size wc V) (h7:Below V.heap.size V w7) (hx:x0=0→ro=q.root∧ns=q.slash∧k7=q.parts.length∧w7.ownsRow V.heap.size 9 1 (.slice a7 k7 c7) q.parts.length (Nm.strs q.parts)) :
  Hid (On wc (w7.alloc (.cells #[.bool ro,.bool ns,.slice a7 k7 c7] 234)) w7.heap.size ro ns a7 k7 c7 x0 q)∧Below wc.heap.size wc w7:=by
 have hBw:=hB.trans (h7.mono hB.size)
 refine ⟨⟨heap_alloc_new _ _,hBw.alloc hBw.size _,hBw.size,fun h0=>?_⟩,hBw⟩
 obtain ⟨e1,e2,e3,own⟩:=hx h0
 exact ⟨e1,e2,e3,Nm.own_keep (Nm.own_base own hB.size) fun k cur hc=>Below.heap_alloc _ _ _ (lt_of_heap hc)⟩
end
end Go.Proofs.YtlngeaacjbdmhaaGreat.Wl
