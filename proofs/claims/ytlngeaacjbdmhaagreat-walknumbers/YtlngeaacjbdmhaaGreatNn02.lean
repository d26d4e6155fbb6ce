/-
 The walk of WalkNumbers.
-/
import Derived.Test.YtlngeaacjbdmhaaGreatNn01
import Derived.BigRegion
set_option maxRecDepth 100000
set_option maxHeartbeats 16000000
namespace Go.Proofs.YtlngeaacjbdmhaaGreat.Bt
open Go.RowKit
attribute [local go_sem ↓] Go.wp_at_zero Go.wp_at_succ
def Na (k:Nat) (M:Mt.T):Prop:=(k≤9→M=⟨1,0,[]⟩)∧Nq M
theorem act15 {W:World} {b:Nat} {ty:TypeId} {v0 v1 v2 v3 v4 v5 v6 v7 v8 v9 v10 v11 v12 v13 v14:Value} (h:W.heap[b]?=some (.cells #[v0,v1,v2,v3,v4,v5,v6,v7,v8,v9,v10,v11,v12,v13,v14] ty)):W.cell? ⟨b,0,none⟩=some v0∧W.cell? ⟨b,1,none⟩=some v1∧W.cell? ⟨b,2,none⟩=some v2∧W.cell? ⟨b,3,none⟩=some v3∧W.cell? ⟨b,4,none⟩=some v4∧W.cell? ⟨b,5,none⟩=some v5∧W.cell? ⟨b,6,none⟩=some v6∧W.cell? ⟨b,7,none⟩=some v7∧W.cell? ⟨b,8,none⟩=some v8∧W.cell? ⟨b,9,none⟩=some v9∧W.cell? ⟨b,10,none⟩=some v10∧W.cell? ⟨b,11,none⟩=some v11∧W.cell? ⟨b,12,none⟩=some v12∧W.cell? ⟨b,13,none⟩=some v13∧W.cell? ⟨b,14,none⟩=some v14:=by
 refine ⟨?_,?_,?_,?_,?_,?_,?_,?_,?_,?_,?_,?_,?_,?_,?_⟩ <;> (rw [cell_of h];rfl)
theorem numbers_walk (w:World):Calls Tryz.prog 5 #[] w fun e w'=>e=.returned (.bool true)∧Below w.heap.size w w':=by
 have HTop:=hide Wl.top_any
 have HKn:=hide Wl.known_any
 go_enter Tryz.func5,Tryz.ntmps5
 go_wp2_with fail
 refine (new_any w).mono ?_
 rintro e w1 ⟨t,m,r,R,l0,l1,rfl,S1⟩
 obtain ⟨Y,hY,gY,hBY⟩:∃ Y,w1.alloc (.cells #[P0 t,P0 m,P0 r,P0 (R + 1)] 46)=Y∧Y.heap[w1.heap.size]?=some (.cells #[P0 t,P0 m,P0 r,P0 (R + 1)] 46)∧Below w1.heap.size w1 Y:=⟨_,rfl,heap_alloc_new _ _,(Below.refl _ _).alloc (Nat.le_refl _) _⟩
 obtain ⟨A,hA,gA,hBA⟩:∃ A,Y.alloc (.cells #[I 1,I 1,I 0,I 0,.string ⟨#[97]⟩,.string ⟨#[]⟩,I 0,I 1,I 493,I 0,I 0,I 0,I 0,I 0,I 0,I 1,I 2,I 0,I 0,.string ⟨#[102]⟩,.string ⟨#[]⟩,I 0,I 2,I 0,I 0,I 0,I 0,I 0,I 0,I 0,I 1,I 2,I 0,I 0,.string ⟨#[108]⟩,.string ⟨#[108]⟩,I 0,I 3,I 0,I 0,I 0,I 0,I 0,I 0,I 0,I 1,I 2,I 0,I 0,.string ⟨#[117,112]⟩,.string ⟨#[46,46,47,97,47]⟩,I 0,I 3,I 0,I 0,I 0,I 0,I 0,I 0,I 0,I 1,I 2,I 0,I 0,.string ⟨#[110,111]⟩,.string ⟨#[]⟩,I 0,I 3,I 0,I 0,I 0,I 0,I 0,I 0,I 0,I 1,I 2,I 0,I 0,.string ⟨#[100,97,114,107]⟩,.string ⟨#[]⟩,I 0,I 1,I 0,I 0,I 0,I 0,I 0,I 0,I 0,I 1,I 7,I 0,I 0,.string ⟨#[120]⟩,.string ⟨#[]⟩,I 0,I 1,I 0,I 0,I 0,I 0,I 0,I 0,I 0,I 1,I 2,I 0,I 0,.string ⟨#[111,117,116]⟩,.string ⟨#[109,105,115,115,105,110,103]⟩,I 0,I 3,I 0,I 0,I 0,I 0,I 0,I 0,I 0,I 1,I 1,I 0,I 0,.string ⟨#[109]⟩,.string ⟨#[]⟩,I 0,I 1,I 0,I 0,I 0,I 0,I 0,I 0,I 0,I 6,I 0,I 2,I 0,.string ⟨#[]⟩,.string ⟨#[]⟩,I 0,I 0,I 0,I 0,I 0,I 0,I 0,I 0,I 10] 52)=A∧A.heap[Y.heap.size]?=some (.cells acts10 52)∧Below Y.heap.size Y A:=⟨_,rfl,heap_alloc_new _ _,(Below.refl _ _).alloc (Nat.le_refl _) _⟩
 have HZ:Hid (Na 0 ⟨1,0,[]⟩∧Bx t m r R l0 l1 1 0 w A (Tr.new 40 20) (Tr.new 40 20) ⟨1,0,[]⟩ ⟨1,0,[]⟩ [⟨0,0,1,true⟩]∧A.heap[w1.heap.size]?=some (.cells #[P0 t,P0 m,P0 r,P0 (R + 1)] 46)∧A.heap[Y.heap.size]?=some (.cells acts10 52)) :=
  hide ⟨⟨fun _=>rfl,rfl,.inl rfl⟩,((unhide S1).below hBY).below hBA,(hBA.block _ (lt_of_heap gY)).trans gY,gA⟩
 clear S1 gY hBY gA hBA
 generalize hyb:w1.heap.size=yb at HZ
 generalize hya:Y.heap.size=ya at HZ
 go_upto_block 0 with fail
 clear hyb hya hY hA
 go_cut [] from 3 to 52 (fun wc=>∃ (T:Tr) (M:Mt.T) (rs:List Mt.Rm),Hid (Nq M∧Bx t m r R l0 l1 41 10 w wc T T M M rs∧wc.heap[yb]?=some (.cells #[P0 t,P0 m,P0 r,P0 (R + 1)] 46)))
 case first =>
  go_wp2_with fail
  go_loopw [44] (fun v wr=>∃ (k:Nat) (T:Tr) (M:Mt.T) (rs:List Mt.Rm),v=I k∧k≤10∧Hid (Na k M∧Bx t m r R l0 l1 (1 + 4 * k) (k:Int) w wr T T M M rs∧wr.heap[yb]?=some (.cells #[P0 t,P0 m,P0 r,P0 (R + 1)] 46)∧wr.heap[ya]?=some (.cells acts10 52))) (fun v _=>10 - (intOf v).toNat)
  case atStart=>exact ⟨0,_,_,_,rfl,by omega,HZ⟩
  case round =>
   clear HZ
   obtain ⟨k,T,M,rs,rfl,hk,HZ⟩:=hrel
   by_cases hc:k < 10
   ·obtain ⟨⟨hM,hN⟩,hS,gb,ga⟩:=unhide HZ
    obtain ⟨x,hx,hx1,hx2,x0,x1,x2,x3,x4,x5,x6,x7,x8,x9,x10,x11,x12,x13,x14⟩:=act_get ga k hc
    have j0:(0:Int)≤(k:Int):=by omega
    have j1:(k:Int) < 10:=by omega
    have hNx:Hid (∀ T' M',Stp x T T' M M'→(k + 1≤9→M'=⟨1,0,[]⟩)∧Nq M'):=hide fun T' M' hs=>nq_step hx1 hx2 hc hM hs
    have HDo:Hid (∀ X,Below wr.heap.size wr X→Calls Tryz.prog 26 #[.agg #[P0 t,P0 m,P0 r,P0 (R + 1)],x.v] X fun e w'=>e=.returned (.bool true)∧Hid (∃ T' M' rs',Stp x T T' M M'∧Bx t m r R l0 l1 (1 + 4 * k + 4) ((k:Int) + 1) w w' T' T' M' M' rs'∧Kp X w')):=hide fun X g=>do_any (hS.below g) (by omega) (by omega) x hx
    clear hx hx1 hx2 hM hN hS
    obtain ⟨kind,dir,tq,n,s,ad,sn,kd,mo,ui,gi,li,si,am,an⟩:=x
    simp only [Ac.v,Ac.cs] at HDo
    obtain ⟨X,hX,gX,hBX⟩:∃ X,wr.alloc (.cells #[I kind,I dir,I tq,I n,.string s,.string ad,I sn,I kd,I mo,I ui,I gi,I li,I si,I am,I an] 52)=X∧X.heap[wr.heap.size]?=some (.cells #[I kind,I dir,I tq,I n,.string s,.string ad,I sn,I kd,I mo,I ui,I gi,I li,I si,I am,I an] 52)∧Below wr.heap.size wr X:=⟨_,rfl,heap_alloc_new _ _,(Below.refl _ _).alloc (Nat.le_refl _) _⟩
    have gbX:=(hBX.block _ (lt_of_heap gb)).trans gb
    have gaX:=(hBX.block _ (lt_of_heap ga)).trans ga
    obtain ⟨b0,b1,b2,b3⟩:X.cell? ⟨yb,0,none⟩=some (P0 t)∧X.cell? ⟨yb,1,none⟩=some (P0 m)∧X.cell? ⟨yb,2,none⟩=some (P0 r)∧X.cell? ⟨yb,3,none⟩=some (P0 (R + 1)):=by
     refine ⟨?_,?_,?_,?_⟩ <;> (rw [cell_of gbX];rfl)
    obtain ⟨y0,y1,y2,y3,y4,y5,y6,y7,y8,y9,y10,y11,y12,y13,y14⟩:=act15 gX
    have HD:=hide (unhide HDo X hBX)
    have HK:=hide (⟨gbX,gaX⟩:_∧_)
    clear hc ga gb gX hBX gbX gaX HDo HZ
    simp only at x0 x1 x2 x3 x4 x5 x6 x7 x8 x9 x10 x11 x12 x13 x14
    go_wp2_with fail
    refine (unhide HD).mono ?_
    rintro e u2 ⟨rfl,G2⟩
    clear HD hX x0 x1 x2 x3 x4 x5 x6 x7 x8 x9 x10 x11 x12 x13 x14 y0 y1 y2 y3 y4 y5 y6 y7 y8 y9 y10 y11 y12 y13 y14 b0 b1 b2 b3
    go_wp2_with fail
    obtain ⟨T',M',rs',h1,h2,h3⟩:=unhide G2
    obtain ⟨n1,n2⟩:=unhide hNx T' M' h1
    exact ⟨⟨k + 1,T',M',rs',by simp,by omega,hide ⟨⟨n1,n2⟩,by simpa [Nat.mul_add,Nat.add_assoc] using h2,h3 _ _ _ _ (unhide HK).1 own_both,h3 _ _ _ _ (unhide HK).2 own_act⟩⟩,by simp [intOf];omega⟩
   ·obtain rfl:k=10:=by omega
    have HE:Hid (Nq M∧Bx t m r R l0 l1 41 10 w wr T T M M rs∧wr.heap[yb]?=some (.cells #[P0 t,P0 m,P0 r,P0 (R + 1)] 46)):=by
     obtain ⟨⟨-,hN⟩,hS,gb,-⟩:=unhide HZ
     exact hide ⟨hN,hS,gb⟩
    clear HZ
    go_wp2_with fail
    go_meet
    case rel=>exact ⟨T,M,rs,HE⟩
 case rest =>
 obtain ⟨T,M,rs,HZ0⟩:=hcut
 obtain ⟨V1,hV1⟩:∃ V1,V1=wc:=⟨_,rfl⟩
 rw [← hV1] at HZ0 ⊢
 clear hV1 wc HZ
 obtain ⟨W2,hW2,gs,hB2⟩:∃ W2,V1.alloc (.cells #[.string ⟨#[]⟩,.string ⟨#[47]⟩,.string ⟨#[97]⟩,.string ⟨#[97,47,102,47,120]⟩,.string ⟨#[97,47,102,47]⟩,.string ⟨#[97,47,108]⟩,.string ⟨#[97,47,108,47,120]⟩,.string ⟨#[97,47,117,112]⟩,.string ⟨#[97,47,117,112,47]⟩,.string ⟨#[97,47,117,112,47,102]⟩,.string ⟨#[97,47,110,111,47]⟩,.string ⟨#[97,47,100,97,114,107,47,46]⟩,.string ⟨#[97,47,100,97,114,107,47,120,47,121]⟩,.string ⟨#[97,47,111,117,116]⟩,.string ⟨#[97,47,111,117,116,47]⟩,.string ⟨#[122,122,47]⟩,.string ⟨#[109]⟩,.string ⟨#[109,47,102]⟩,.string ⟨#[109,47,46,46]⟩,.string ⟨#[109,47,117,112]⟩,.string ⟨#[109,47,100,97,114,107,47,46,46,47,46,46,47,97]⟩,.string ⟨#[47,46,46,47,46,46,47,97]⟩,.string ⟨#[97,47,46]⟩,.string ⟨#[97,47,46,46]⟩,.string ⟨#[97,47,47,102]⟩] 9)=W2∧W2.heap[V1.heap.size]?=some (.cells strs25 9)∧Below V1.heap.size V1 W2:=⟨_,rfl,heap_alloc_new _ _,(Below.refl _ _).alloc (Nat.le_refl _) _⟩
 obtain ⟨hN,hS,gb⟩:=unhide HZ0
 have hS2:=hS.below hB2
 have gb2:=(hB2.block _ (lt_of_heap gb)).trans gb
 have HWk:Hid (∀ W',Below W2.heap.size W2 W'→∀ (cu cg:Int) (fo:Bool) (p:ByteArray) (Z:Wl.Re),(Eb T M cu cg fo).walk 0 1 p.data.toList=Z→Calls Tryz.prog 27 #[P0 t,P0 m,.agg #[I 0,I 1],.agg #[I 0,I 1],.agg #[I cu,I cg],.string p,.bool fo] W' fun e w'=>e=.returned (.tuple #[.agg #[I Z.f.dm,I Z.f.dn,.string (Wl.bs Z.f.last),I Z.f.am,I Z.f.an,.bool Z.f.has,.bool Z.f.slash],I Z.why])∧Below W'.heap.size W' w'):=hide fun W' g cu cg fo p Z hZ=>Wl.Walk_any ((hS2.wd2 (by omega) hN.wfs cu cg fo).below g) 0 1 (show (kl (1:Int)).wf=true by decide) (by decide) p.data.toList Z hZ
 have HRw:Hid (∀ W',Below W2.heap.size W2 W'→∀ (cu cg:Int) (fo:Bool) (p:ByteArray) (Z:Wl.Re),(Eb T M cu cg fo).walk 0 1 p.data.toList=Z→Calls Tryz.prog 29 #[P0 r,P0 (R + 1),.agg #[I 0,I 1],.agg #[I 0,I 1],.agg #[I cu,I cg],.string p,.bool fo] W' fun e w'=>e=.returned (.tuple #[.agg #[I Z.f.dm,I Z.f.dn,.string (Wl.bs Z.f.last),I Z.f.am,I Z.f.an,.bool Z.f.has,.bool Z.f.slash],I Z.why,I (Z.steps:Int)])∧Below W'.heap.size W' w'):=hide fun W' g cu cg fo p Z hZ=>rwalk_B ((hS2.rd (by omega) (by omega) hN.wfs cu cg fo).below g) 0 1 (by decide) p Z hZ
 have HSt:Hid (∀ W',Below W2.heap.size W2 W'→∀ (cu cg:Int) (fo:Bool) (p:ByteArray) (Z:Wl.Re),(Eb T M cu cg fo).walk 0 1 p.data.toList=Z→Calls Tryz.prog 31 #[P0 t,P0 m,.agg #[I 0,I 1],.agg #[I 0,I 1],.agg #[I cu,I cg],.string p,.bool fo] W' fun e w'=>e=.returned (I (Z.steps:Int))∧Below W'.heap.size W' w'):=hide fun W' g cu cg fo p Z hZ=>Wl.Steps_any ((hS2.wd2 (by omega) hN.wfs cu cg fo).below g) 0 1 (show (kl (1:Int)).wf=true by decide) (by decide) p.data.toList Z hZ
 have HP1:Hid (∀ W',Below W2.heap.size W2 W'→Calls Tryz.prog 32 #[P0 t,P0 m,.agg #[I 0,I 1]] W' fun e w'=>e=.returned (.bool true)∧Below W'.heap.size W' w'):=hide fun W' g=>Wl.place_any ((hS2.wd2 (by omega) hN.wfs 0 0 true).below g) 0 1 (by decide) true (Nq.top hS.q.f 0 0 true)
 have HP5:Hid (∀ W',Below W2.heap.size W2 W'→Calls Tryz.prog 32 #[P0 t,P0 m,.agg #[I 5,I 1]] W' fun e w'=>e=.returned (.bool false)∧Below W'.heap.size W' w'):=hide fun W' g=>Wl.place_any ((hS2.wd2 (by omega) hN.wfs 0 0 true).below g) 5 1 (by decide) false (hN.no5 0 0 true 1)
 have HCe:Hid (∀ W',Below W2.heap.size W2 W'→W'.cell? ⟨yb,0,none⟩=some (P0 t)∧W'.cell? ⟨yb,1,none⟩=some (P0 m)∧W'.cell? ⟨yb,2,none⟩=some (P0 r)∧W'.cell? ⟨yb,3,none⟩=some (P0 (R + 1))):=hide fun W' g=>by
  have gb3:=(g.block _ (lt_of_heap gb2)).trans gb2
  refine ⟨?_,?_,?_,?_⟩ <;> (rw [cell_of gb3];rfl)
 have HCs:Hid (∀ i,i < 25→∃ s:ByteArray,∀ W',Below W2.heap.size W2 W'→W'.cell? ⟨V1.heap.size,i,none⟩=some (.string s)):=hide fun i hi=>by
  obtain ⟨s,hs⟩:=str_get gs i hi
  exact ⟨s,fun W' g=>Wl.cell_be hs g⟩
 have HBw:=hide hS2.be
 clear hN hS gb hS2 gb2 gs hB2 HZ0
 obtain ⟨ys,hys⟩:∃ ys,ys=V1.heap.size:=⟨_,rfl⟩
 rw [← hys] at HCs
 have Hys:=hide hys
 clear hys
 go_upto_block 2 with fail
 rw [← unhide Hys]
 clear hW2 Hys
 go_cut [] from 3 to 122 (fun wc=>Hid (Below W2.heap.size W2 wc))
 case first =>
  go_wp2_with fail
  go_loopw [55] (fun v wr=>∃ i:Nat,v=I i∧i≤25∧Hid (Below W2.heap.size W2 wr)) (fun v _=>25 - (intOf v).toNat)
  case atStart=>exact ⟨0,rfl,by omega,hide (Below.refl _ _)⟩
  case round =>
   obtain ⟨i,rfl,hi,HB⟩:=hrel
   by_cases hin:i < 25
   ·obtain ⟨sq,hsq⟩:=unhide HCs i hin
    have j0:(0:Int)≤(i:Int):=by omega
    have j1:(i:Int) < 25:=by omega
    have s0:=hsq wr (unhide HB)
    obtain ⟨W3,hW3⟩:∃ W3,W3=wr:=⟨_,rfl⟩
    have HB3:Hid (Below W2.heap.size W2 W3):=by rw [hW3];exact HB
    clear hsq HB
    go_wp2_with fail
    clear s0
    rw [← hW3]
    clear hW3
    go_loopw [7] (fun v wq=>∃ k:Nat,v=I k∧k≤4∧Hid (Below W3.heap.size W3 wq)) (fun v _=>4 - (intOf v).toNat)
    case atStart=>exact ⟨0,rfl,by omega,hide (Below.refl _ _)⟩
    case round =>
     obtain ⟨k,rfl,hk,HBj⟩:=hrel
     by_cases hk4:k < 4
     ·have i0:(0:Int)≤(k:Int):=by omega
      have i1:(k:Int) < 4:=by omega
      obtain ⟨cu,hcu⟩:∃ cu:Int,(k:Int) % 2=cu:=⟨_,rfl⟩
      obtain ⟨kq,hkq⟩:∃ kq:Int,(k:Int) / 2=kq:=⟨_,rfl⟩
      obtain ⟨fo,hfo⟩:∃ fo:Bool,(IntKind.i64.wrap kq == 0)=fo:=⟨_,rfl⟩
      obtain ⟨P,hP,gP,hBP⟩:∃ P,wr.alloc (.cells #[I cu,I 5] 57)=P∧P.heap[wr.heap.size]?=some (.cells #[I cu,I 5] 57)∧Below wr.heap.size wr P:=⟨_,rfl,heap_alloc_new _ _,(Below.refl _ _).alloc (Nat.le_refl _) _⟩
      have hB3P:Below W3.heap.size W3 P:=(unhide HBj).trans (hBP.mono (unhide HBj).size)
      have hB2P:Below W2.heap.size W2 P:=(unhide HB3).trans (hB3P.mono (unhide HB3).size)
      obtain ⟨yq,hyq⟩:∃ yq,yq=wr.heap.size:=⟨_,rfl⟩
      rw [← hyq] at gP
      have Hyq:=hide hyq
      obtain ⟨p0',p1'⟩:=Mt.cells2 gP
      have HCp:Hid (∀ W',Below P.heap.size P W'→W'.cell? ⟨yb,0,none⟩=some (P0 t)∧W'.cell? ⟨yb,1,none⟩=some (P0 m)∧W'.cell? ⟨yb,2,none⟩=some (P0 r)∧W'.cell? ⟨yb,3,none⟩=some (P0 (R + 1))∧W'.cell? ⟨yq,0,none⟩=some (I cu)∧W'.cell? ⟨yq,1,none⟩=some (I 5)):=hide fun W' g=>by
       obtain ⟨h1,h2,h3,h4⟩:=unhide HCe W' (hB2P.trans (g.mono hB2P.size))
       exact ⟨h1,h2,h3,h4,Wl.cell_be p0' g,Wl.cell_be p1' g⟩
      obtain ⟨Zr,hZr⟩:∃ Z,(Eb T M cu 5 fo).walk 0 1 sq.data.toList=Z:=⟨_,rfl⟩
      have HWk2:=hide (fun W' (g:Below P.heap.size P W')=>unhide HWk W' (hB2P.trans (g.mono hB2P.size)) cu 5 fo sq Zr hZr)
      have HRw2:=hide (fun W' (g:Below P.heap.size P W')=>unhide HRw W' (hB2P.trans (g.mono hB2P.size)) cu 5 fo sq Zr hZr)
      have HSt2:=hide (fun W' (g:Below P.heap.size P W')=>unhide HSt W' (hB2P.trans (g.mono hB2P.size)) cu 5 fo sq Zr hZr)
      obtain ⟨nx,fd,why,ea,eb,st⟩:=Zr
      obtain ⟨dm,dn,las,am,an,ha,sl⟩:=fd
      simp only at HWk2 HRw2 HSt2
      obtain ⟨la,hla⟩:∃ la,la=Wl.bs las:=⟨_,rfl⟩
      rw [← hla] at HWk2 HRw2
      have HB3P:=hide hB3P
      have HZ:=hide (Cw.nil P)
      clear hB3P hB2P gP p0' p1' hBP hyq hZr hla HBj
      go_upto_region 17 with fail
      rw [← unhide Hyq]
      clear hP Hyq hcu
      go_cut [9,10] from 66 to 80 (fun s9 s10 wd=>∃ q17:Nat,s9=P0 q17∧s10=I why∧Hid (Cw P wd ((q17,#[I dm,I dn,.string la,I am,I an,.bool ha,.bool sl],59) :: [])))
      case first =>
       have HY:=hide (unhide HZ).drew
       obtain ⟨b0,b1,b2,b3,c0,c1⟩:=unhide HCp _ (unhide HZ).be
       go_region_held3 (fun w'=>w'.cell? ⟨yb,0,none⟩=some (P0 t)∧w'.cell? ⟨yb,1,none⟩=some (P0 m)∧w'.cell? ⟨yq,0,none⟩=some (I cu)∧w'.cell? ⟨yq,1,none⟩=some (I 5)) (go_keep)
        (first
         | (go_at_call 28;refine (unhide HTop _).mono ?_;rintro e z1 ⟨rfl,hz⟩;(first | (have HF:=hide ((unhide HF).below hz)) | (have HF:=hide (cw_new_d (cs:=#[I 0,I 0,.string ⟨#[]⟩,I 0,I 0,.bool false,.bool false]) (ty:=59) (unhide HZ) hz)) | (have HF:=hide (cw_new (cs:=#[I 0,I 0,.string ⟨#[]⟩,I 0,I 0,.bool false,.bool false]) (ty:=59) (unhide HY) hz)) | (have HY:=hide ((unhide HY).below hz)));(first | (have HGG:=HF) | (have HGG:=HY));obtain ⟨b0,b1,b2,b3,c0,c1⟩:=unhide HCp _ (unhide HGG).be)
         | (go_at_call 27;(try rw [hfo]);refine (unhide HWk2 _ ?_).mono ?_;(first | exact (unhide HF).be | exact (unhide HY).be | exact ((unhide HY).more (cs:=#[I 0,I 0,.string ⟨#[]⟩,I 0,I 0,.bool false,.bool false]) (ty:=59)).be);rintro e z2 ⟨rfl,hz⟩;(first | (have HF:=hide ((unhide HF).below hz)) | (have HF:=hide (cw_new_d (cs:=#[I 0,I 0,.string ⟨#[]⟩,I 0,I 0,.bool false,.bool false]) (ty:=59) (unhide HZ) hz)) | (have HF:=hide (cw_new (cs:=#[I 0,I 0,.string ⟨#[]⟩,I 0,I 0,.bool false,.bool false]) (ty:=59) (unhide HY) hz)) | (have HY:=hide ((unhide HY).below hz)));(first | (have HGG:=HF;obtain ⟨b0,b1,b2,b3,c0,c1⟩:=unhide HCp _ (unhide HGG).be;obtain ⟨X1,X2,X3,X4,X5,X6,X7,⟨e1,e2,e3,e4,e5,e6,e7⟩,⟨g0,g1,g2,g3,g4,g5,g6⟩,⟨k0,k1,k2,k3,k4,k5,k6⟩,HX7⟩:=(unhide HF).store7 (I dm) (I dn) (.string la) (I am) (I an) (.bool ha) (.bool sl);obtain ⟨b0,b1,b2,b3,c0,c1⟩:=unhide HCp _ (unhide HX7).be) | (obtain ⟨b0,b1,b2,b3,c0,c1⟩:=unhide HCp _ (unhide HY).be;obtain ⟨A0,hA0,HFA⟩:=cw_alloc (cs:=#[I 0,I 0,.string ⟨#[]⟩,I 0,I 0,.bool false,.bool false]) (ty:=59) (unhide HY);obtain ⟨b0,b1,b2,b3,c0,c1⟩:=unhide HCp _ HFA.be;obtain ⟨X1,X2,X3,X4,X5,X6,X7,⟨e1,e2,e3,e4,e5,e6,e7⟩,⟨g0,g1,g2,g3,g4,g5,g6⟩,⟨k0,k1,k2,k3,k4,k5,k6⟩,HX7⟩:=HFA.store7 (I dm) (I dn) (.string la) (I am) (I an) (.bool ha) (.bool sl);clear HFA;obtain ⟨b0,b1,b2,b3,c0,c1⟩:=unhide HCp _ (unhide HX7).be))))
       all_goals
        go_wp2_with fail
        go_meet
        case rel=>first | exact ⟨_,rfl,rfl,HX7⟩ | exact ⟨_,rfl,rfl,hide (unhide HX7).drew⟩
      case rest =>
      clear HZ
      obtain ⟨q17,rfl,rfl,HZ⟩:=hcut
      obtain ⟨G1,hG1⟩:∃ G1,G1=wc:=⟨_,rfl⟩
      rw [← hG1] at HZ ⊢
      clear hG1 wc
      go_upto_region 18 with fail
      go_cut [11,12,13] from 81 to 96 (fun s11 s12 s13 wd=>∃ q18:Nat,s11=P0 q18∧s12=I why∧s13=I (st:Int)∧Hid (Cw P wd ((q18,#[I dm,I dn,.string la,I am,I an,.bool ha,.bool sl],63) :: [(q17,#[I dm,I dn,.string la,I am,I an,.bool ha,.bool sl],59)])))
      case first =>
       have HY:=hide (unhide HZ).drew
       obtain ⟨b0,b1,b2,b3,c0,c1⟩:=unhide HCp _ (unhide HZ).be
       go_region_held3 (fun w'=>w'.cell? ⟨yb,2,none⟩=some (P0 r)∧w'.cell? ⟨yb,3,none⟩=some (P0 (R + 1))∧w'.cell? ⟨yq,0,none⟩=some (I cu)∧w'.cell? ⟨yq,1,none⟩=some (I 5)) (go_keep)
        (first
         | (go_at_call 28;refine (unhide HTop _).mono ?_;rintro e z1 ⟨rfl,hz⟩;(first | (have HF:=hide ((unhide HF).below hz)) | (have HF:=hide (cw_new_d (cs:=#[I 0,I 0,.string ⟨#[]⟩,I 0,I 0,.bool false,.bool false]) (ty:=63) (unhide HZ) hz)) | (have HF:=hide (cw_new (cs:=#[I 0,I 0,.string ⟨#[]⟩,I 0,I 0,.bool false,.bool false]) (ty:=63) (unhide HY) hz)) | (have HY:=hide ((unhide HY).below hz)));(first | (have HGG:=HF) | (have HGG:=HY));obtain ⟨b0,b1,b2,b3,c0,c1⟩:=unhide HCp _ (unhide HGG).be)
         | (go_at_call 29;(try rw [hfo]);refine (unhide HRw2 _ ?_).mono ?_;(first | exact (unhide HF).be | exact (unhide HY).be | exact ((unhide HY).more (cs:=#[I 0,I 0,.string ⟨#[]⟩,I 0,I 0,.bool false,.bool false]) (ty:=63)).be);rintro e z2 ⟨rfl,hz⟩;(first | (have HF:=hide ((unhide HF).below hz)) | (have HF:=hide (cw_new_d (cs:=#[I 0,I 0,.string ⟨#[]⟩,I 0,I 0,.bool false,.bool false]) (ty:=63) (unhide HZ) hz)) | (have HF:=hide (cw_new (cs:=#[I 0,I 0,.string ⟨#[]⟩,I 0,I 0,.bool false,.bool false]) (ty:=63) (unhide HY) hz)) | (have HY:=hide ((unhide HY).below hz)));(first | (have HGG:=HF;obtain ⟨b0,b1,b2,b3,c0,c1⟩:=unhide HCp _ (unhide HGG).be;obtain ⟨X1,X2,X3,X4,X5,X6,X7,⟨e1,e2,e3,e4,e5,e6,e7⟩,⟨g0,g1,g2,g3,g4,g5,g6⟩,⟨k0,k1,k2,k3,k4,k5,k6⟩,HX7⟩:=(unhide HF).store7 (I dm) (I dn) (.string la) (I am) (I an) (.bool ha) (.bool sl);obtain ⟨b0,b1,b2,b3,c0,c1⟩:=unhide HCp _ (unhide HX7).be) | (obtain ⟨b0,b1,b2,b3,c0,c1⟩:=unhide HCp _ (unhide HY).be;obtain ⟨A0,hA0,HFA⟩:=cw_alloc (cs:=#[I 0,I 0,.string ⟨#[]⟩,I 0,I 0,.bool false,.bool false]) (ty:=63) (unhide HY);obtain ⟨b0,b1,b2,b3,c0,c1⟩:=unhide HCp _ HFA.be;obtain ⟨X1,X2,X3,X4,X5,X6,X7,⟨e1,e2,e3,e4,e5,e6,e7⟩,⟨g0,g1,g2,g3,g4,g5,g6⟩,⟨k0,k1,k2,k3,k4,k5,k6⟩,HX7⟩:=HFA.store7 (I dm) (I dn) (.string la) (I am) (I an) (.bool ha) (.bool sl);clear HFA;obtain ⟨b0,b1,b2,b3,c0,c1⟩:=unhide HCp _ (unhide HX7).be))))
       all_goals
        go_wp2_with fail
        go_meet
        case rel=>first | exact ⟨_,rfl,rfl,rfl,HX7⟩ | exact ⟨_,rfl,rfl,rfl,hide (unhide HX7).drew⟩
      case rest =>
      clear HZ
      obtain ⟨q18,rfl,rfl,rfl,HZ⟩:=hcut
      obtain ⟨G2,hG2⟩:∃ G2,G2=wc:=⟨_,rfl⟩
      rw [← hG2] at HZ ⊢
      clear hG2 wc
      have HSm:=hide (same_any dm dn am an la ha sl)
      have HY:=hide (unhide HZ).drew
      obtain ⟨b0,b1,b2,b3,c0,c1⟩:=unhide HCp _ (unhide HZ).be;obtain ⟨r0,r1,r2,r3,r4,r5,r6,z0,z1,z2,z3,z4,z5,z6⟩:=cw_two (unhide HZ)
      go_upto_region 19 with fail
      go_cut [121] from 97 to 120 (fun s121 wd=>s121=.bool false∧Hid (Below P.heap.size P wd))
      case first =>
       go_region_held3 (fun w'=>w'.cell? ⟨q17,0,none⟩=some (I dm)∧w'.cell? ⟨q17,1,none⟩=some (I dn)∧w'.cell? ⟨q17,2,none⟩=some (.string la)∧w'.cell? ⟨q17,3,none⟩=some (I am)∧w'.cell? ⟨q17,4,none⟩=some (I an)∧w'.cell? ⟨q17,5,none⟩=some (.bool ha)∧w'.cell? ⟨q17,6,none⟩=some (.bool sl)∧w'.cell? ⟨q18,0,none⟩=some (I dm)∧w'.cell? ⟨q18,1,none⟩=some (I dn)∧w'.cell? ⟨q18,2,none⟩=some (.string la)∧w'.cell? ⟨q18,3,none⟩=some (I am)∧w'.cell? ⟨q18,4,none⟩=some (I an)∧w'.cell? ⟨q18,5,none⟩=some (.bool ha)∧w'.cell? ⟨q18,6,none⟩=some (.bool sl)∧w'.cell? ⟨yb,0,none⟩=some (P0 t)∧w'.cell? ⟨yb,1,none⟩=some (P0 m)∧w'.cell? ⟨yq,0,none⟩=some (I cu)∧w'.cell? ⟨yq,1,none⟩=some (I 5)) (go_keep)
        (first
         | (go_at_call 30;refine (unhide HSm _).mono ?_;rintro e z1 ⟨rfl,hz⟩;have HY:=hide ((unhide HY).below hz);obtain ⟨b0,b1,b2,b3,c0,c1⟩:=unhide HCp _ (unhide HY).be;obtain ⟨r0,r1,r2,r3,r4,r5,r6,z0,z1,z2,z3,z4,z5,z6⟩:=cw_two (unhide HY))
         | (go_at_call 28;refine (unhide HTop _).mono ?_;rintro e z1 ⟨rfl,hz⟩;have HY:=hide ((unhide HY).below hz);obtain ⟨b0,b1,b2,b3,c0,c1⟩:=unhide HCp _ (unhide HY).be;obtain ⟨r0,r1,r2,r3,r4,r5,r6,z0,z1,z2,z3,z4,z5,z6⟩:=cw_two (unhide HY))
         | (go_at_call 31;(try rw [hfo]);refine (unhide HSt2 _ (unhide HY).be).mono ?_;rintro e z1 ⟨rfl,hz⟩;have HY:=hide ((unhide HY).below hz);obtain ⟨b0,b1,b2,b3,c0,c1⟩:=unhide HCp _ (unhide HY).be;obtain ⟨r0,r1,r2,r3,r4,r5,r6,z0,z1,z2,z3,z4,z5,z6⟩:=cw_two (unhide HY)))
       all_goals
        go_wp2_with fail
        go_meet
        case rel=>first | exact ⟨rfl,hide (unhide HY).be⟩ | exact ⟨by simp,hide (unhide HY).be⟩
      case rest =>
      obtain ⟨rfl,HBd⟩:=hcut
      obtain ⟨G3,hG3⟩:∃ G3,G3=wc:=⟨_,rfl⟩
      rw [← hG3] at HBd ⊢
      clear hG3 wc HZ HY b0 b1 b2 b3 c0 c1 r0 r1 r2 r3 r4 r5 r6 z0 z1 z2 z3 z4 z5 z6 hkq hfo
      go_wp2_with fail
      exact ⟨⟨k + 1,by simp,by omega,hide ((unhide HB3P).trans ((unhide HBd).mono (unhide HB3P).size))⟩,by simp [intOf];omega⟩
     ·obtain rfl:k=4:=by omega
      go_wp2_with fail
      exact ⟨⟨i + 1,by simp,by omega,hide ((unhide HB3).trans ((unhide HBj).mono (unhide HB3).size))⟩,by simp [intOf];omega⟩
   ·obtain rfl:i=25:=by omega
    go_wp2_with fail
    go_meet
    case rel=>exact HB
 case rest =>
  clear HWk HRw HSt HCs
  obtain ⟨W4,hW4⟩:∃ W4,W4=wc:=⟨_,rfl⟩
  rw [← hW4] at hcut ⊢
  have HB4:=hcut
  clear hW4 wc hcut
  obtain ⟨d,la,x,HWn0⟩:∃ (d:Int) (la:ByteArray) (x:Bool),∀ W',Calls Tryz.prog 27 #[.pointer none,P0 m,.agg #[I 0,I 1],.agg #[I 0,I 1],.agg #[I 0,I 0],.string ⟨#[47]⟩,.bool true] W' fun e w'=>e=.returned (.tuple #[.agg #[I d,I d,.string la,I d,I d,.bool x,.bool x],I 1])∧Below W'.heap.size W' w':=⟨0,Wl.bs [],false,fun W'=>Walk_nil m 0 1 0 1 0 0 ⟨#[47]⟩ true W'⟩
  have HWn:=hide HWn0
  clear HWn0
  have HZ:=hide (Cw.nil W4)
  have HCp:Hid (∀ W',Below W4.heap.size W4 W'→W'.cell? ⟨yb,0,none⟩=some (P0 t)∧W'.cell? ⟨yb,1,none⟩=some (P0 m)):=hide fun W' g=>by
   obtain ⟨h1,h2,-,-⟩:=unhide HCe W' ((unhide HB4).trans (g.mono (unhide HB4).size))
   exact ⟨h1,h2⟩
  have HP1':Hid (∀ W',Below W4.heap.size W4 W'→Calls Tryz.prog 32 #[P0 t,P0 m,.agg #[I 0,I 1]] W' fun e w'=>e=.returned (.bool true)∧Below W'.heap.size W' w'):=hide fun W' g=>unhide HP1 W' ((unhide HB4).trans (g.mono (unhide HB4).size))
  have HP5':Hid (∀ W',Below W4.heap.size W4 W'→Calls Tryz.prog 32 #[P0 t,P0 m,.agg #[I 5,I 1]] W' fun e w'=>e=.returned (.bool false)∧Below W'.heap.size W' w'):=hide fun W' g=>unhide HP5 W' ((unhide HB4).trans (g.mono (unhide HB4).size))
  clear HP1 HP5 HCe
  go_upto_region 22 with fail
  go_cut [14,15] from 123 to 131 (fun _ s15 wd=>s15=I 1∧Hid (Below W4.heap.size W4 wd))
  case first =>
   have HY:=hide (unhide HZ).drew
   obtain ⟨b0,b1⟩:=unhide HCp _ (unhide HZ).be
   go_region_held3 (fun w'=>w'.cell? ⟨yb,1,none⟩=some (P0 m)) (go_keep)
    (first
     | (go_at_call 28;refine (unhide HTop _).mono ?_;rintro e z1 ⟨rfl,hz⟩;(first | (have HF:=hide ((unhide HF).below hz)) | (have HF:=hide (cw_new_d (cs:=#[I 0,I 0,.string ⟨#[]⟩,I 0,I 0,.bool false,.bool false]) (ty:=59) (unhide HZ) hz)) | (have HF:=hide (cw_new (cs:=#[I 0,I 0,.string ⟨#[]⟩,I 0,I 0,.bool false,.bool false]) (ty:=59) (unhide HY) hz)) | (have HY:=hide ((unhide HY).below hz)));(first | (have HGG:=HF) | (have HGG:=HY));obtain ⟨b0,b1⟩:=unhide HCp _ (unhide HGG).be)
     | (go_at_call 27;refine (unhide HWn _).mono ?_;rintro e z2 ⟨rfl,hz⟩;(first | (have HF:=hide ((unhide HF).below hz)) | (have HF:=hide (cw_new_d (cs:=#[I 0,I 0,.string ⟨#[]⟩,I 0,I 0,.bool false,.bool false]) (ty:=59) (unhide HZ) hz)) | (have HF:=hide (cw_new (cs:=#[I 0,I 0,.string ⟨#[]⟩,I 0,I 0,.bool false,.bool false]) (ty:=59) (unhide HY) hz)) | (have HY:=hide ((unhide HY).below hz)));(first | (have HGG:=HF;obtain ⟨b0,b1⟩:=unhide HCp _ (unhide HGG).be;obtain ⟨X1,X2,X3,X4,X5,X6,X7,⟨e1,e2,e3,e4,e5,e6,e7⟩,⟨g0,g1,g2,g3,g4,g5,g6⟩,⟨k0,k1,k2,k3,k4,k5,k6⟩,HX7⟩:=(unhide HF).store7 (I d) (I d) (.string la) (I d) (I d) (.bool x) (.bool x);obtain ⟨b0,b1⟩:=unhide HCp _ (unhide HX7).be) | (obtain ⟨b0,b1⟩:=unhide HCp _ (unhide HY).be;obtain ⟨A0,hA0,HFA⟩:=cw_alloc (cs:=#[I 0,I 0,.string ⟨#[]⟩,I 0,I 0,.bool false,.bool false]) (ty:=59) (unhide HY);obtain ⟨b0,b1⟩:=unhide HCp _ HFA.be;obtain ⟨X1,X2,X3,X4,X5,X6,X7,⟨e1,e2,e3,e4,e5,e6,e7⟩,⟨g0,g1,g2,g3,g4,g5,g6⟩,⟨k0,k1,k2,k3,k4,k5,k6⟩,HX7⟩:=HFA.store7 (I d) (I d) (.string la) (I d) (I d) (.bool x) (.bool x);clear HFA;obtain ⟨b0,b1⟩:=unhide HCp _ (unhide HX7).be))))
   all_goals
    go_wp2_with fail
    go_meet
    case rel=>first | exact ⟨rfl,hide (unhide HX7).be⟩ | exact ⟨rfl,hide (unhide HX7).drew.be⟩
  case rest =>
  obtain ⟨rfl,HBd⟩:=hcut
  obtain ⟨G3,hG3⟩:∃ G3,G3=wc:=⟨_,rfl⟩
  rw [← hG3] at HBd ⊢
  clear hG3 wc HZ
  have HY:Hid (Cw W4 G3.drew []):=hide (Cw.nil W4 |>.below (unhide HBd)).drew
  obtain ⟨b0,b1⟩:=unhide HCp G3 (unhide HBd)
  go_upto_region 23 with fail
  go_region_held3 (fun w'=>w'.cell? ⟨yb,0,none⟩=some (P0 t)∧w'.cell? ⟨yb,1,none⟩=some (P0 m)) (go_keep)
   (first
    | (go_at_call 28;refine (unhide HTop _).mono ?_;rintro e z1 ⟨rfl,hz⟩;have HY:=hide ((unhide HY).below hz);obtain ⟨b0,b1⟩:=unhide HCp _ (unhide HY).be)
    | (go_at_call_of 32 (Value.agg #[I 5,I 1]);refine (unhide HP5' _ (unhide HY).be).mono ?_;rintro e z1 ⟨rfl,hz⟩;have HY:=hide ((unhide HY).below hz);obtain ⟨b0,b1⟩:=unhide HCp _ (unhide HY).be)
    | (go_at_call_of 32 (Value.agg #[Value.int .i64 5,Value.int .i64 1]);refine (unhide HP5' _ (unhide HY).be).mono ?_;rintro e z1 ⟨rfl,hz⟩;have HY:=hide ((unhide HY).below hz);obtain ⟨b0,b1⟩:=unhide HCp _ (unhide HY).be)
    | (go_at_call_of 32 (Value.agg #[I 0,I 1]);refine (unhide HP1' _ (unhide HY).be).mono ?_;rintro e z1 ⟨rfl,hz⟩;have HY:=hide ((unhide HY).below hz);obtain ⟨b0,b1⟩:=unhide HCp _ (unhide HY).be)
    | (go_at_call 33;refine (unhide HKn _).mono ?_;rintro e z1 ⟨rfl,hz⟩;have HY:=hide ((unhide HY).below hz);obtain ⟨b0,b1⟩:=unhide HCp _ (unhide HY).be))
  all_goals
   go_wp2_with fail
   go_ret
   refine ⟨rfl,?_⟩
   have g2:=(unhide HB4).trans ((unhide HY).be.mono (unhide HB4).size)
   exact (unhide HBw).trans (g2.mono (unhide HBw).size)
end Go.Proofs.YtlngeaacjbdmhaaGreat.Bt
