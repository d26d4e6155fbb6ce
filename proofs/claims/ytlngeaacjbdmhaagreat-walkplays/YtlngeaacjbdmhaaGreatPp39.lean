/-
 The walk of WalkPlays.
-/
import Derived.Test.YtlngeaacjbdmhaaGreatPp38
import Derived.BigRegion
import Derived.Test.YtlngeaacjbdmhaaGreatPp37
import Derived.OpenShut
set_option maxRecDepth 100000
set_option maxHeartbeats 16000000
namespace Go.Proofs.YtlngeaacjbdmhaaGreat.Bt
open Go.RowKit
attribute [local go_sem ↓] Go.wp_at_zero Go.wp_at_succ
theorem plays_walk (pa:Option Addr) (len cap:Nat) (fm0 fn0:Int) (_hfm:Iw fm0) (hfn:Iw fn0) (cu cg:Int) (pb:Option Addr) (len2 cap2:Nat) (raw:ByteArray) (fo:Bool) (w:World) (ha:ActsAt w pa len) (hb2:IntssAt w pb len2) (hraw:raw.size≤maxLen) :
  Calls Tryz.prog 6 #[.slice pa len cap,.agg #[I fm0,I fn0],.agg #[I cu,I cg],.slice pb len2 cap2,.string raw,.bool fo] w fun e w'=>e=.returned (.bool true)∧Below w.heap.size w w':=by
 have hlen:(len:Int)≤9223372036854775807:=by have:=ha.1;omega
 have hlen2:(len2:Int)≤9223372036854775807:=by have:=hb2.1;omega
 obtain ⟨V,hV,hf,hc,hB⟩:∃ V,(w.alloc (.cells #[I fm0,I fn0] 50)).alloc (.cells #[I cu,I cg] 57)=V∧V.heap[w.heap.size]?=some (.cells #[I fm0,I fn0] 50)∧V.heap[w.heap.size + 1]?=some (.cells #[I cu,I cg] 57)∧Below w.heap.size w V:=by
  have h1:Below w.heap.size w (w.alloc (.cells #[I fm0,I fn0] 50)):=(Below.refl _ _).alloc (Nat.le_refl _) _
  refine ⟨_,rfl,?_,?_,h1.alloc (by simp) _⟩
  ·exact (Below.heap_alloc _ _ _ (by simp)).trans (heap_alloc_new w _)
  ·have:=heap_alloc_new (w.alloc (.cells #[I fm0,I fn0] 50)) (.cells #[I cu,I cg] 57)
   simpa using this
 have HA:=hide ha
 have HI2:=hide hb2
 have HC:=hide (⟨hc,hf⟩:_∧_)
 have HB:=hide hB
 have HTop:=hide Wl.top_any
 have HKn:=hide Wl.known_any
 have HWi:=hide Mt.within_any
 have Hraw:=hide hraw
 clear ha hb2 hc hf hB hraw
 go_enter Tryz.func6,Tryz.ntmps6
 go_wp2_with fail
 refine (new_any V).mono ?_
 rintro e w1 ⟨t,m,r,R,l0,l1,rfl,S1⟩
 have HZ:Hid (Bw t m r R l0 l1 w1.heap.size (w.heap.size + 1) w.heap.size cu cg fm0 fn0 1 0 w (w1.alloc (.cells #[P0 t,P0 m,P0 r,P0 (R + 1)] 46)) (Tr.new 40 20) ⟨1,0,[]⟩ [⟨0,0,1,true⟩] []):=by
  have s:=(unhide S1).rebase (unhide HB)
  have g:Below w1.heap.size w1 (w1.alloc (.cells #[P0 t,P0 m,P0 r,P0 (R + 1)] 46)):=(Below.refl _ _).alloc (Nat.le_refl _) _
  have h1:=((unhide S1).be.block _ (lt_of_heap (unhide HC).1)).trans (unhide HC).1
  have h2:=((unhide S1).be.block _ (lt_of_heap (unhide HC).2)).trans (unhide HC).2
  exact hide ⟨s.below g,heap_alloc_new w1 _,(g.block _ (lt_of_heap h1)).trans h1,(g.block _ (lt_of_heap h2)).trans h2,by omega,by simp,by simp⟩
 clear S1 HC HB
 generalize hyb:w1.heap.size=yb at HZ
 generalize hyf:w.heap.size=yf at HZ
 generalize hyc:yf + 1=yc at HZ
 go_upto_block 0 with fail
 clear hyb hyf hyc hV
 go_cut [] from 15 to 49 (fun wc=>∃ (T:Tr) (M:Mt.T) (rs:List Mt.Rm),Inv T M∧Bw t m r R l0 l1 yb yc yf cu cg fm0 fn0 201 50 w wc T M rs [])
 case first =>
  go_wp2_with fail
  go_loopw [15] (fun v wr=>∃ (k:Nat) (T:Tr) (M:Mt.T) (rs:List Mt.Rm),v=I k∧k≤50∧k≤len∧Hid (Inv T M∧Bw t m r R l0 l1 yb yc yf cu cg fm0 fn0 (1 + 4 * k) (k:Int) w wr T M rs [])) (fun v _=>50 - (intOf v).toNat)
  case atStart=>exact ⟨0,_,_,_,rfl,by omega,by omega,hide ⟨Inv.new,unhide HZ⟩⟩
  case round =>
   clear HZ
   obtain ⟨k,T,M,rs,rfl,hk,hkl,HZ⟩:=hrel
   by_cases hc:k < len∧k < 50
   ·obtain ⟨b,off,x,rfl,hb,A⟩:=(unhide HA).2 k hc.1
    have j1:(k:Int) < (len:Int):=by omega
    have j2:(k:Int) < 50:=by omega
    have j0:(0:Int)≤(k:Int):=by omega
    have HK:Hid (∀ W',Below w.heap.size w W'→W'.cell? ⟨b,off + k * 15,none⟩=some (I x.kind)∧W'.cell? ⟨b,off + k * 15 + 1,none⟩=some (I x.dir)∧W'.cell? ⟨b,off + k * 15 + 2,none⟩=some (I x.tq)∧W'.cell? ⟨b,off + k * 15 + 3,none⟩=some (I x.n)∧W'.cell? ⟨b,off + k * 15 + 4,none⟩=some (.string x.s)∧W'.cell? ⟨b,off + k * 15 + 5,none⟩=some (.string x.ad)∧W'.cell? ⟨b,off + k * 15 + 6,none⟩=some (I x.sn)∧W'.cell? ⟨b,off + k * 15 + 7,none⟩=some (I x.kd)∧W'.cell? ⟨b,off + k * 15 + 8,none⟩=some (I x.mo)∧W'.cell? ⟨b,off + k * 15 + 9,none⟩=some (I x.ui)∧W'.cell? ⟨b,off + k * 15 + 10,none⟩=some (I x.gi)∧W'.cell? ⟨b,off + k * 15 + 11,none⟩=some (I x.li)∧W'.cell? ⟨b,off + k * 15 + 12,none⟩=some (I x.si)∧W'.cell? ⟨b,off + k * 15 + 13,none⟩=some (I x.am)∧W'.cell? ⟨b,off + k * 15 + 14,none⟩=some (I x.an)):=hide fun W' g=>act_cells A hb g
    have HTm:=hide (fun W'=>tame_any x A.w W')
    clear A hb hc
    obtain ⟨kind,dir,tq,n,s,ad,sn,kd,mo,ui,gi,li,si,am,an⟩:=x
    simp only at HK
    simp only [Ac.v,Ac.cs] at HTm
    obtain ⟨b0,b1,b2,b3⟩:=(unhide HZ).2.cells.1
    obtain ⟨x0,x1,x2,x3,x4,x5,x6,x7,x8,x9,x10,x11,x12,x13,x14⟩:=unhide HK wr (unhide HZ).2.s.be
    go_wp2_with fail
    go_region_held3 (fun w'=>w'.cell? ⟨yb,0,none⟩=some (P0 t)∧w'.cell? ⟨yb,1,none⟩=some (P0 m)∧w'.cell? ⟨yb,2,none⟩=some (P0 r)∧w'.cell? ⟨yb,3,none⟩=some (P0 (R + 1))∧w'.cell? ⟨b,off + k * 15,none⟩=some (I kind)∧w'.cell? ⟨b,off + k * 15 + 1,none⟩=some (I dir)∧w'.cell? ⟨b,off + k * 15 + 2,none⟩=some (I tq)∧w'.cell? ⟨b,off + k * 15 + 3,none⟩=some (I n)∧w'.cell? ⟨b,off + k * 15 + 4,none⟩=some (.string s)∧w'.cell? ⟨b,off + k * 15 + 5,none⟩=some (.string ad)∧w'.cell? ⟨b,off + k * 15 + 6,none⟩=some (I sn)∧w'.cell? ⟨b,off + k * 15 + 7,none⟩=some (I kd)∧w'.cell? ⟨b,off + k * 15 + 8,none⟩=some (I mo)∧w'.cell? ⟨b,off + k * 15 + 9,none⟩=some (I ui)∧w'.cell? ⟨b,off + k * 15 + 10,none⟩=some (I gi)∧w'.cell? ⟨b,off + k * 15 + 11,none⟩=some (I li)∧w'.cell? ⟨b,off + k * 15 + 12,none⟩=some (I si)∧w'.cell? ⟨b,off + k * 15 + 13,none⟩=some (I am)∧w'.cell? ⟨b,off + k * 15 + 14,none⟩=some (I an)) (go_keep)
     (first
      | (go_at_call 34;refine (unhide HTm wr.drew).mono ?_;rintro e u1 ⟨x',rfl,G1⟩;have HZ1:=hide ((unhide HZ).2.drew.below (unhide G1).2.2);obtain ⟨b0,b1,b2,b3⟩:=(unhide HZ1).cells.1;obtain ⟨x0,x1,x2,x3,x4,x5,x6,x7,x8,x9,x10,x11,x12,x13,x14⟩:=unhide HK u1 (unhide HZ1).s.be)
      | (go_at_call 26;refine (do_any (unhide HZ1).s (by omega) (by omega) x' (unhide G1).2.1).mono ?_;rintro e u2 ⟨rfl,G2⟩;have HZ2:Hid (∃ T' M' rs',Inv T' M'∧Bw t m r R l0 l1 yb yc yf cu cg fm0 fn0 (1 + 4 * k + 4) ((k:Int) + 1) w u2 T' M' rs' []):=hide (by
        obtain ⟨T',M',rs',g1,g2,g3⟩:=unhide G2
        exact ⟨T',M',rs',(unhide HZ).1.step (unhide G1).1 g1,(unhide HZ1).step g2 g3⟩);obtain ⟨⟨b0,b1,b2,b3⟩,BE⟩:=bw_cells2 (unhide HZ2);obtain ⟨x0,x1,x2,x3,x4,x5,x6,x7,x8,x9,x10,x11,x12,x13,x14⟩:=unhide HK u2 BE))
    all_goals
     go_wp2_with fail
     obtain ⟨T',M',rs',i1,i2⟩:=unhide HZ2
     exact ⟨⟨k + 1,T',M',rs',by simp,by omega,by omega,hide ⟨i1,by simpa [Nat.mul_add,Nat.add_assoc] using i2⟩⟩,by simp [intOf];omega⟩
   ·by_cases hl:k < len
    ·have j1:(k:Int) < (len:Int):=by omega
     obtain rfl:k=50:=by omega
     go_wp2_with fail
     go_meet
     case rel=>exact ⟨T,M,rs,(unhide HZ).1,(unhide HZ).2⟩
    ·have j1:¬ ((k:Int) < (len:Int)):=by omega
     go_wp2_with fail
     go_meet
     case rel=>exact ⟨T,M,rs,(unhide HZ).1,(unhide HZ).2.mono (by omega) (by omega)⟩
 case rest =>
  clear HZ HA
  obtain ⟨T,M,rs,hI,Z⟩:=hcut
  obtain ⟨V1,hV1⟩:∃ V1,V1=wc:=⟨_,rfl⟩
  rw [← hV1] at Z ⊢
  have HI:=hide hI
  have HZ:=hide Z
  have HBw:=hide Z.s.be
  clear hI Z hV1 wc
  go_upto_if 52 with fail
  go_cut [4] from 50 to 54 (fun s4 wc=>∃ raw2:ByteArray,s4=.string raw2∧wc=V1)
  case first =>
   have hraw:=unhide Hraw
   unfold maxLen at hraw
   by_cases hl:5000 < raw.size
   ·have j1:(5000:Int) < (raw.size:Int):=by omega
    have j2:(5000:Int)≤(raw.size:Int):=by omega
    go_wp2_with fail
    go_meet
    case rel=>exact ⟨_,rfl,rfl⟩
   ·have j1:¬ (5000:Int) < (raw.size:Int):=by omega
    go_wp2_with fail
    go_meet
    case rel=>exact ⟨raw,rfl,rfl⟩
  case rest =>
  obtain ⟨raw2,rfl,e9⟩:=hcut
  rw [e9]
  clear e9 wc Hraw
  obtain ⟨A,hA,hAo,hAB⟩:∃ A,V1.alloc (.cells #[.string raw2] 9)=A∧A.ownsRow V1.heap.size 9 1 (.slice (some ⟨V1.heap.size,0,none⟩) 1 1) 1 (Nm.strs [raw2.data.toList])∧Below V1.heap.size V1 A:=by
   refine ⟨_,rfl,⟨rfl,.inr ⟨V1.heap.size,1,#[.string raw2],rfl,Nat.le_refl _,putAll (w:=V1) (.cells #[.string raw2] 9) V1.heap.size rfl,Nat.le_refl _,by unfold maxLen;omega,rfl,rfl⟩⟩,(Below.refl _ V1).alloc (Nat.le_refl _) _⟩
  have HAo:=hide (⟨hAo,hAB⟩:_∧_)
  clear hAo hAB
  go_upto_block 2 with fail
  clear hA
  go_cut [16] from 17 to 74 (fun s16 wc=>∃ (a:Option Addr) (c:Nat) (qs:List Wl.Bytes),s16=.slice a qs.length c∧qs.length≤11∧Hid (wc.ownsRow V1.heap.size 9 1 (.slice a qs.length c) qs.length (Nm.strs qs)∧Below V1.heap.size V1 wc))
  case first =>
   go_wp2_with fail
   go_loopw [16,17] (fun s16 v wr=>∃ (k:Nat) (a:Option Addr) (c:Nat) (qs:List Wl.Bytes),v=I k∧k≤10∧k≤len2∧s16=.slice a (k + 1) c∧Hid (qs.length=k + 1∧wr.ownsRow V1.heap.size 9 1 (.slice a (k + 1) c) qs.length (Nm.strs qs)∧Below V1.heap.size V1 wr)) (fun _ v _=>10 - (intOf v).toNat)
   case atStart=>exact ⟨0,some ⟨V1.heap.size,0,none⟩,1,[raw2.data.toList],rfl,by omega,by omega,rfl,hide ⟨rfl,(unhide HAo).1,(unhide HAo).2⟩⟩
   case round =>
    clear HAo
    obtain ⟨k,a,c,qs,rfl,hk,hkl,rfl,HQ⟩:=hrel
    by_cases hc:k < len2∧k < 10
    ·obtain ⟨b,off,a2,n2,c2,rfl,hb,hcell,hints⟩:=(unhide HI2).2 k hc.1
     have j1:(k:Int) < (len2:Int):=by omega
     have j2:(k:Int) < 10:=by omega
     have j0:(0:Int)≤(k:Int):=by omega
     obtain ⟨hql,hown,hbe⟩:=unhide HQ
     have hbw:Below w.heap.size w wr:=(unhide HBw).trans (hbe.mono (unhide HBw).size)
     have hcell2:wr.cell? ⟨b,off + k,none⟩=some (.slice a2 n2 c2):=(cell_same (hbw.block b hb) _).trans hcell
     have HPa:=hide (path_any a2 n2 c2 wr (hints.below hbw))
     have HQQ:=hide (⟨hql,hown,hbe⟩:_∧_∧_)
     clear hc hb hcell hints hql hown hbe hbw HQ
     obtain ⟨K1,hK1⟩:∃ K1,K1=k + 1:=⟨_,rfl⟩
     rw [← hK1]
     have HK1:=hide hK1
     clear hK1
     go_wp2_with fail
     refine (unhide HPa).mono ?_
     rintro e w5 ⟨s,rfl,hs,hB5⟩
     obtain ⟨hql,hown,hbe⟩:=unhide HQQ
     have hbe5:Below V1.heap.size V1 w5:=hbe.trans (hB5.mono hbe.size)
     obtain ⟨W6,hW6,g6,hB6⟩:∃ W6,w5.alloc (.cells #[.string s] 9)=W6∧W6.heap[w5.heap.size]?=some (.cells #[.string s] 9)∧Below w5.heap.size w5 W6:=⟨_,rfl,heap_alloc_new _ _,(Below.refl _ _).alloc (Nat.le_refl _) _⟩
     have hbe6:Below V1.heap.size V1 W6:=hbe5.trans (hB6.mono hbe5.size)
     have hB56:Below wr.heap.size wr W6:=hB5.trans (hB6.mono hB5.size)
     have hown6:W6.ownsRow V1.heap.size 9 1 (.slice a (k + 1) c) qs.length (Nm.strs qs):=Nm.own_keep hown fun q cur hc=>hB56.block q (lt_of_heap hc)
     have hrow:Nm.RowO W6 (some ⟨w5.heap.size,0,none⟩) [s.data.toList]:=by
      intro i q hi
      match i,hi with
      | 0,hi =>
       simp at hi
       subst hi
       exact ⟨w5.heap.size,0,rfl,lt_of_heap g6,by rw [cell_of g6];rfl⟩
     obtain ⟨v1,W7,run1,own1,hB7,hs7,-⟩:=Wl.join_run hown6 hbe6.size (by omega) (by simp) (cap:=1) hrow
     obtain ⟨f7,g7,rfl⟩:=Nm.own_form own1
     have hl7:(qs ++ [s.data.toList]).length=k + 1 + 1:=by simp [hql]
     rw [hl7] at own1
     have e0:([s.data.toList]:List Wl.Bytes).length=1:=rfl
     rw [e0] at run1
     have HE:=hide (⟨hl7,own1,hB7 _ hbe6⟩:_∧_∧_)
     rw [← unhide HK1] at run1
     rw [hl7,← unhide HK1] at run1
     clear hql hown hbe hbe5 g6 hB6 hbe6 hB56 hown6 hrow own1 hB7 hs7 hB5 HQQ HPa hl7 e0 hs hcell2
     go_wp2_with (at_builtin;refine wpList_append_eq rfl _ _ 55 rfl 55 rfl _ _ (by rfl) (by rfl) _ _ run1 ?_;clear run1)
     obtain ⟨hl7,own7,be7⟩:=unhide HE
     have hK:=unhide HK1
     subst hK
     exact ⟨⟨k + 1,f7,g7,qs ++ [s.data.toList],by simp,by omega,by omega,rfl,hide ⟨hl7,by rw [hl7];exact own7,be7⟩⟩,by simp [intOf];omega⟩
    ·obtain ⟨hql,hown,hbe⟩:=unhide HQ
     by_cases hl:k < len2
     ·have j1:(k:Int) < (len2:Int):=by omega
      obtain rfl:k=10:=by omega
      have HE:=hide (⟨hql,hown,hbe⟩:_∧_∧_)
      clear hql hown hbe HQ
      go_wp2_with fail
      go_meet
      case rel =>
       obtain ⟨hql,hown,hbe⟩:=unhide HE
       exact ⟨a,c,qs,by rw [hql],by omega,hide ⟨by rw [hql];rw [hql] at hown;exact hown,hbe⟩⟩
     ·have j1:¬ ((k:Int) < (len2:Int)):=by omega
      have HE:=hide (⟨hql,hown,hbe⟩:_∧_∧_)
      clear hql hown hbe HQ
      go_wp2_with fail
      go_meet
      case rel =>
       obtain ⟨hql,hown,hbe⟩:=unhide HE
       exact ⟨a,c,qs,by rw [hql],by omega,hide ⟨by rw [hql];rw [hql] at hown;exact hown,hbe⟩⟩
  case rest =>
  clear HI2 HAo
  obtain ⟨sa,sc,qs,rfl,hqs,HQ⟩:=hcut
  obtain ⟨W2,hW2⟩:∃ W2,W2=wc:=⟨_,rfl⟩
  rw [← hW2] at HQ ⊢
  clear hW2 wc
  obtain ⟨hown2,hbe2⟩:=unhide HQ
  have ZZ:=unhide HZ
  have D2:=(ZZ.s.rd (by omega) (by omega) (unhide HI).wfs cu cg fo).below hbe2
  have wd2:=(ZZ.s.wd (by omega) (unhide HI) cu cg fo).below hbe2
  have HWk:Hid (∀ W',Below W2.heap.size W2 W'→∀ (gm gn:Int),(kl gn).wf=true→∀ (p:ByteArray) (Z:Wl.Re),(Eb T M cu cg fo).walk gm gn p.data.toList=Z→Calls Tryz.prog 27 #[P0 t,P0 m,.agg #[I 0,I 1],.agg #[I gm,I gn],.agg #[I cu,I cg],.string p,.bool fo] W' fun e w'=>e=.returned (.tuple #[.agg #[I Z.f.dm,I Z.f.dn,.string (Wl.bs Z.f.last),I Z.f.am,I Z.f.an,.bool Z.f.has,.bool Z.f.slash],I Z.why])∧Below W'.heap.size W' w'):=hide fun W' g gm gn hf p Z hZ=>Wl.Walk_any (wd2.below g) gm gn (show (kl (1:Int)).wf=true by decide) hf p.data.toList Z hZ
  have HRw:Hid (∀ W',Below W2.heap.size W2 W'→∀ (gm gn:Int),(kl gn).wf=true→∀ (p:ByteArray) (Z:Wl.Re),(Eb T M cu cg fo).walk gm gn p.data.toList=Z→Calls Tryz.prog 29 #[P0 r,P0 (R + 1),.agg #[I 0,I 1],.agg #[I gm,I gn],.agg #[I cu,I cg],.string p,.bool fo] W' fun e w'=>e=.returned (.tuple #[.agg #[I Z.f.dm,I Z.f.dn,.string (Wl.bs Z.f.last),I Z.f.am,I Z.f.an,.bool Z.f.has,.bool Z.f.slash],I Z.why,I (Z.steps:Int)])∧Below W'.heap.size W' w'):=hide fun W' g gm gn hf p Z hZ=>rwalk_B (D2.below g) gm gn hf p Z hZ
  have HSt:Hid (∀ W',Below W2.heap.size W2 W'→∀ (gm gn:Int),(kl gn).wf=true→∀ (p:ByteArray) (Z:Wl.Re),(Eb T M cu cg fo).walk gm gn p.data.toList=Z→Calls Tryz.prog 31 #[P0 t,P0 m,.agg #[I 0,I 1],.agg #[I gm,I gn],.agg #[I cu,I cg],.string p,.bool fo] W' fun e w'=>e=.returned (I (Z.steps:Int))∧Below W'.heap.size W' w'):=hide fun W' g gm gn hf p Z hZ=>Wl.Steps_any (wd2.below g) gm gn (show (kl (1:Int)).wf=true by decide) hf p.data.toList Z hZ
  have HPl:Hid (∀ W',Below W2.heap.size W2 W'→∀ (x y:Int),(kl y).wf=true→∀ b:Bool,(Eb T M cu cg fo).place x y=b→Calls Tryz.prog 32 #[P0 t,P0 m,.agg #[I x,I y]] W' fun e w'=>e=.returned (.bool b)∧Below W'.heap.size W' w'):=hide fun W' g x y hy b hb=>Wl.place_any (wd2.below g) x y hy b hb
  have HRp:Hid (∀ W',Below W2.heap.size W2 W'→∀ (x y:Int),(kl y).wf=true→∀ b:Bool,(Eb T M cu cg fo).place x y=b→Calls Tryz.prog 36 #[P0 r,P0 (R + 1),.agg #[I x,I y]] W' fun e w'=>e=.returned (.bool b)∧Below W'.heap.size W' w'):=hide fun W' g x y hy b hb=>Wl.rplace_any (D2.below g) x y hy b hb
  obtain ⟨⟨b0,b1,b2,b3⟩,⟨c0,c1⟩,f0,f1⟩:=ZZ.cells
  have HCe:Hid (∀ W',Below W2.heap.size W2 W'→(W'.cell? ⟨yb,0,none⟩=some (P0 t)∧W'.cell? ⟨yb,1,none⟩=some (P0 m)∧W'.cell? ⟨yb,2,none⟩=some (P0 r)∧W'.cell? ⟨yb,3,none⟩=some (P0 (R + 1)))∧(W'.cell? ⟨yc,0,none⟩=some (I cu)∧W'.cell? ⟨yc,1,none⟩=some (I cg))∧W'.cell? ⟨yf,0,none⟩=some (I fm0)∧W'.cell? ⟨yf,1,none⟩=some (I fn0)):=hide fun W' g=>by
   have g2:=hbe2.trans (g.mono hbe2.size)
   exact ⟨⟨Wl.cell_be b0 g2,Wl.cell_be b1 g2,Wl.cell_be b2 g2,Wl.cell_be b3 g2⟩,⟨Wl.cell_be c0 g2,Wl.cell_be c1 g2⟩,Wl.cell_be f0 g2,Wl.cell_be f1 g2⟩
  have hb2w:Below w.heap.size w W2:=(unhide HBw).trans (hbe2.mono (unhide HBw).size)
  have HRo:=hide (Nm.RowO.of_own hown2)
  have Hb2w:=hide hb2w
  obtain ⟨ns,hns⟩:∃ ns,ns=qs.length:=⟨_,rfl⟩
  rw [← hns] at hqs ⊢
  have Hns:=hide hns
  have hwfn:(kl fn0).wf=true:=wf_of (by obtain ⟨h1,h2⟩:=hfn;omega)
  clear hown2 hbe2 ZZ D2 wd2 b0 b1 b2 b3 c0 c1 f0 f1 hb2w hns HQ HZ HI HBw
  go_wp2_with fail
  go_loopw [18] (fun v wr=>∃ i:Nat,v=I i∧i≤ns∧Hid (Below W2.heap.size W2 wr)) (fun v _=>ns - (intOf v).toNat)
  case atStart=>exact ⟨0,rfl,by omega,hide (Below.refl _ _)⟩
  case round =>
   obtain ⟨i,rfl,hi,HB⟩:=hrel
   by_cases hin:i < ns
   ·have hiq:i < qs.length:=by have:=unhide Hns;omega
    obtain ⟨bq,oq,hsa,hbq,hcq⟩:=unhide HRo i _ (List.getElem?_eq_getElem hiq)
    subst hsa
    obtain ⟨sq,hsq⟩:∃ sq:ByteArray,sq=Wl.bs qs[i]:=⟨_,rfl⟩
    have hcq2:W2.cell? ⟨bq,oq + i,none⟩=some (.string sq):=by rw [hsq];exact hcq
    have HCq:Hid (∀ W',Below W2.heap.size W2 W'→W'.cell? ⟨bq,oq + i,none⟩=some (.string sq)):=hide fun W' g=>Wl.cell_be hcq2 g
    have j0:(0:Int)≤(i:Int):=by omega
    have j1:(i:Int) < (ns:Int):=by omega
    clear hiq hbq hcq hsq hcq2
    obtain ⟨-,-,f0,f1⟩:=unhide HCe wr (unhide HB)
    go_upto_region 19 with fail
    go_cut [91,92,93] from 81 to 90 (fun s91 s92 s93 wd=>∃ (q:Nat) (xa xb:Int),s91=.slice (some ⟨q,0,none⟩) 3 3∧s92=I 3∧s93=I 0∧Hid ((kl xb).wf=true∧wd.heap[q]?=some (.cells #[I 0,I 1,I fm0,I fn0,I xa,I xb] 50)∧Below wr.heap.size wr wd))
    case first =>
     have HY:=hide (Cw.nil wr).drew
     go_region_held3 (fun w'=>w'.cell? ⟨yf,0,none⟩=some (I fm0)∧w'.cell? ⟨yf,1,none⟩=some (I fn0)) (go_keep)
      (first
       | (go_at_call 28;refine (unhide HTop _).mono ?_;rintro e z1 ⟨rfl,hz⟩;have HY:=hide ((unhide HY).below hz);have f2:=Wl.cell_be f0 (unhide HY).be;have f3:=Wl.cell_be f1 (unhide HY).be;clear hz)
       | (go_at_call_of 23 (I fm0);refine (unhide HWi fm0 3 _ (by decide) (by decide)).mono ?_;rintro e w' ⟨⟨ra,hra,rfl⟩,rfl⟩;have hra1:=hra.1;have hra2:=hra.2)
       | (go_at_call_of 23 (I fn0);refine (unhide HWi fn0 6 _ (by decide) (by decide)).mono ?_;rintro e w' ⟨⟨rb,hrb,rfl⟩,rfl⟩;have hrb1:=hrb.1;have hrb2:=hrb.2))
     all_goals
      rename_i hHeld
      clear hHeld
      go_wp2_with fail
      go_meet
      case rel =>
       have hwr:IntKind.i64.wrap (1 + rb)=1 + rb:=by rw [IntKind.wrap_i64];omega
       refine ⟨_,ra,1 + rb,rfl,rfl,rfl,hide ⟨wf_of (by omega),?_,?_⟩⟩
       ·rw [hwr];exact heap_alloc_new _ _
       ·first | exact (unhide HY).be.alloc (unhide HY).be.size _ | exact below_drew ((unhide HY).be.alloc (unhide HY).be.size _)
    case rest =>
     obtain ⟨q,xa,xb,rfl,rfl,rfl,HD⟩:=hcut
     obtain ⟨W3,hW3⟩:∃ W3,W3=wc:=⟨_,rfl⟩
     rw [← hW3] at HD ⊢
     clear hW3 wc f0 f1
     have HB3:Hid (Below W2.heap.size W2 W3):=hide ((unhide HB).trans ((unhide HD).2.2.mono (unhide HB).size))
     clear HB
     go_wp2_with fail
     go_loopw [93] (fun v wq=>∃ j:Nat,v=I j∧j≤3∧Hid (Below W3.heap.size W3 wq)) (fun v _=>3 - (intOf v).toNat)
     case atStart=>exact ⟨0,rfl,by omega,hide (Below.refl _ _)⟩
     case round =>
      obtain ⟨j,rfl,hj,HBj⟩:=hrel
      by_cases hj3:j < 3
      ·obtain ⟨xm,xn,hxn,hxc⟩:∃ xm xn,(kl xn).wf=true∧(wr.cell? ⟨q,j * 2,none⟩=some (I xm)∧wr.cell? ⟨q,j * 2 + 1,none⟩=some (I xn)):=by
        have hq:=((unhide HBj).block _ (lt_of_heap (unhide HD).2.1)).trans (unhide HD).2.1
        match j,hj3 with
        | 0,_=>exact ⟨0,1,by decide,by rw [cell_of hq];rfl,by rw [cell_of hq];rfl⟩
        | 1,_=>exact ⟨fm0,fn0,hwfn,by rw [cell_of hq];rfl,by rw [cell_of hq];rfl⟩
        | 2,_=>exact ⟨xa,xb,(unhide HD).1,by rw [cell_of hq];rfl,by rw [cell_of hq];rfl⟩
       obtain ⟨x0,x1⟩:=hxc
       have i0:(0:Int)≤(j:Int):=by omega
       have i1:(j:Int) < 3:=by omega
       obtain ⟨P,hP,gP,hBP⟩:∃ P,wr.alloc (.cells #[I xm,I xn] 50)=P∧P.heap[wr.heap.size]?=some (.cells #[I xm,I xn] 50)∧Below wr.heap.size wr P:=⟨_,rfl,heap_alloc_new _ _,(Below.refl _ _).alloc (Nat.le_refl _) _⟩
       have hB3P:Below W3.heap.size W3 P:=(unhide HBj).trans (hBP.mono (unhide HBj).size)
       have hB2P:Below W2.heap.size W2 P:=(unhide HB3).trans (hB3P.mono (unhide HB3).size)
       obtain ⟨pq,hpq⟩:∃ pq,pq=wr.heap.size:=⟨_,rfl⟩
       rw [← hpq] at gP
       have Hpq:=hide hpq
       obtain ⟨p0',p1'⟩:=Mt.cells2 gP
       have HCp:Hid (∀ W',Below P.heap.size P W'→(W'.cell? ⟨yb,0,none⟩=some (P0 t)∧W'.cell? ⟨yb,1,none⟩=some (P0 m)∧W'.cell? ⟨yb,2,none⟩=some (P0 r)∧W'.cell? ⟨yb,3,none⟩=some (P0 (R + 1)))∧(W'.cell? ⟨yc,0,none⟩=some (I cu)∧W'.cell? ⟨yc,1,none⟩=some (I cg))∧W'.cell? ⟨pq,0,none⟩=some (I xm)∧W'.cell? ⟨pq,1,none⟩=some (I xn)∧W'.cell? ⟨bq,oq + i,none⟩=some (.string sq)):=hide fun W' g=>by
        have g2:=hB2P.trans (g.mono hB2P.size)
        obtain ⟨h1,h2,-,-⟩:=unhide HCe W' g2
        exact ⟨h1,h2,Wl.cell_be p0' g,Wl.cell_be p1' g,unhide HCq W' g2⟩
       obtain ⟨Zr,hZr⟩:∃ Z,(Eb T M cu cg fo).walk xm xn sq.data.toList=Z:=⟨_,rfl⟩
       obtain ⟨pl,hpl⟩:∃ b,(Eb T M cu cg fo).place xm xn=b:=⟨_,rfl⟩
       have HWk2:=hide (fun W' (g:Below P.heap.size P W')=>unhide HWk W' (hB2P.trans (g.mono hB2P.size)) xm xn hxn sq Zr hZr)
       have HRw2:=hide (fun W' (g:Below P.heap.size P W')=>unhide HRw W' (hB2P.trans (g.mono hB2P.size)) xm xn hxn sq Zr hZr)
       have HSt2:=hide (fun W' (g:Below P.heap.size P W')=>unhide HSt W' (hB2P.trans (g.mono hB2P.size)) xm xn hxn sq Zr hZr)
       have HPl2:=hide (fun W' (g:Below P.heap.size P W')=>unhide HPl W' (hB2P.trans (g.mono hB2P.size)) xm xn hxn pl hpl)
       have HRp2:=hide (fun W' (g:Below P.heap.size P W')=>unhide HRp W' (hB2P.trans (g.mono hB2P.size)) xm xn hxn pl hpl)
       obtain ⟨nx,fd,why,ea,eb,st⟩:=Zr
       obtain ⟨dm,dn,las,am,an,ha,sl⟩:=fd
       simp only at HWk2 HRw2 HSt2
       obtain ⟨la,hla⟩:∃ la,la=Wl.bs las:=⟨_,rfl⟩
       rw [← hla] at HWk2 HRw2
       have HB3P:=hide hB3P
       have HZ:=hide (Cw.nil P)
       clear hB3P hB2P gP p0' p1' hBP hpq hZr hpl hla HBj hxn
       go_upto_region 22 with fail
       rw [← unhide Hpq]
       clear hP x0 x1 Hpq
       go_cut [21,22] from 97 to 112 (fun s21 s22 wd=>∃ q22:Nat,s21=P0 q22∧s22=I why∧Hid (Cw P wd ((q22,#[I dm,I dn,.string la,I am,I an,.bool ha,.bool sl],59) :: [])))
       case first =>
        have HY:=hide (unhide HZ).drew
        obtain ⟨⟨b0,b1,b2,b3⟩,⟨c0,c1⟩,p0,p1,s0⟩:=unhide HCp _ (unhide HZ).be
        go_region_held3 (fun w'=>w'.cell? ⟨yb,0,none⟩=some (P0 t)∧w'.cell? ⟨yb,1,none⟩=some (P0 m)∧w'.cell? ⟨yc,0,none⟩=some (I cu)∧w'.cell? ⟨yc,1,none⟩=some (I cg)∧w'.cell? ⟨pq,0,none⟩=some (I xm)∧w'.cell? ⟨pq,1,none⟩=some (I xn)∧w'.cell? ⟨bq,oq + i,none⟩=some (.string sq)) (go_keep)
         (first
          | (go_at_call 28;refine (unhide HTop _).mono ?_;rintro e z1 ⟨rfl,hz⟩;(first | (have HF:=hide ((unhide HF).below hz)) | (have HF:=hide (cw_new_d (cs:=#[I 0,I 0,.string ⟨#[]⟩,I 0,I 0,.bool false,.bool false]) (ty:=59) (unhide HZ) hz)) | (have HF:=hide (cw_new (cs:=#[I 0,I 0,.string ⟨#[]⟩,I 0,I 0,.bool false,.bool false]) (ty:=59) (unhide HY) hz)) | (have HY:=hide ((unhide HY).below hz)));(first | (have HGG:=HF) | (have HGG:=HY));obtain ⟨⟨b0,b1,b2,b3⟩,⟨c0,c1⟩,p0,p1,s0⟩:=unhide HCp _ (unhide HGG).be)
          | (go_at_call 27;refine (unhide HWk2 _ ?_).mono ?_;(first | exact (unhide HF).be | exact (unhide HY).be | exact ((unhide HY).more (cs:=#[I 0,I 0,.string ⟨#[]⟩,I 0,I 0,.bool false,.bool false]) (ty:=59)).be);rintro e z2 ⟨rfl,hz⟩;(first | (have HF:=hide ((unhide HF).below hz)) | (have HF:=hide (cw_new_d (cs:=#[I 0,I 0,.string ⟨#[]⟩,I 0,I 0,.bool false,.bool false]) (ty:=59) (unhide HZ) hz)) | (have HF:=hide (cw_new (cs:=#[I 0,I 0,.string ⟨#[]⟩,I 0,I 0,.bool false,.bool false]) (ty:=59) (unhide HY) hz)) | (have HY:=hide ((unhide HY).below hz)));(first | (have HGG:=HF;obtain ⟨⟨b0,b1,b2,b3⟩,⟨c0,c1⟩,p0,p1,s0⟩:=unhide HCp _ (unhide HGG).be;obtain ⟨X1,X2,X3,X4,X5,X6,X7,⟨e1,e2,e3,e4,e5,e6,e7⟩,⟨g0,g1,g2,g3,g4,g5,g6⟩,⟨k0,k1,k2,k3,k4,k5,k6⟩,HX7⟩:=(unhide HF).store7 (I dm) (I dn) (.string la) (I am) (I an) (.bool ha) (.bool sl);obtain ⟨⟨b0,b1,b2,b3⟩,⟨c0,c1⟩,p0,p1,s0⟩:=unhide HCp _ (unhide HX7).be) | (obtain ⟨⟨b0,b1,b2,b3⟩,⟨c0,c1⟩,p0,p1,s0⟩:=unhide HCp _ (unhide HY).be;obtain ⟨A0,hA0,HFA⟩:=cw_alloc (cs:=#[I 0,I 0,.string ⟨#[]⟩,I 0,I 0,.bool false,.bool false]) (ty:=59) (unhide HY);obtain ⟨⟨b0,b1,b2,b3⟩,⟨c0,c1⟩,p0,p1,s0⟩:=unhide HCp _ HFA.be;obtain ⟨X1,X2,X3,X4,X5,X6,X7,⟨e1,e2,e3,e4,e5,e6,e7⟩,⟨g0,g1,g2,g3,g4,g5,g6⟩,⟨k0,k1,k2,k3,k4,k5,k6⟩,HX7⟩:=HFA.store7 (I dm) (I dn) (.string la) (I am) (I an) (.bool ha) (.bool sl);clear HFA;obtain ⟨⟨b0,b1,b2,b3⟩,⟨c0,c1⟩,p0,p1,s0⟩:=unhide HCp _ (unhide HX7).be))))
        all_goals
         go_wp2_with fail
         go_meet
         case rel=>first | exact ⟨_,rfl,rfl,HX7⟩ | exact ⟨_,rfl,rfl,hide (unhide HX7).drew⟩
       case rest =>
       clear HZ
       obtain ⟨q22,rfl,rfl,HZ⟩:=hcut
       obtain ⟨G1,hG1⟩:∃ G1,G1=wc:=⟨_,rfl⟩
       rw [← hG1] at HZ ⊢
       clear hG1 wc
       go_upto_region 23 with fail
       go_cut [23,24,25] from 113 to 129 (fun s23 s24 s25 wd=>∃ q23:Nat,s23=P0 q23∧s24=I why∧s25=I (st:Int)∧Hid (Cw P wd ((q23,#[I dm,I dn,.string la,I am,I an,.bool ha,.bool sl],63) :: [(q22,#[I dm,I dn,.string la,I am,I an,.bool ha,.bool sl],59)])))
       case first =>
        have HY:=hide (unhide HZ).drew
        obtain ⟨⟨b0,b1,b2,b3⟩,⟨c0,c1⟩,p0,p1,s0⟩:=unhide HCp _ (unhide HZ).be
        go_region_held3 (fun w'=>w'.cell? ⟨yb,2,none⟩=some (P0 r)∧w'.cell? ⟨yb,3,none⟩=some (P0 (R + 1))∧w'.cell? ⟨yc,0,none⟩=some (I cu)∧w'.cell? ⟨yc,1,none⟩=some (I cg)∧w'.cell? ⟨pq,0,none⟩=some (I xm)∧w'.cell? ⟨pq,1,none⟩=some (I xn)∧w'.cell? ⟨bq,oq + i,none⟩=some (.string sq)) (go_keep)
         (first
          | (go_at_call 28;refine (unhide HTop _).mono ?_;rintro e z1 ⟨rfl,hz⟩;(first | (have HF:=hide ((unhide HF).below hz)) | (have HF:=hide (cw_new_d (cs:=#[I 0,I 0,.string ⟨#[]⟩,I 0,I 0,.bool false,.bool false]) (ty:=63) (unhide HZ) hz)) | (have HF:=hide (cw_new (cs:=#[I 0,I 0,.string ⟨#[]⟩,I 0,I 0,.bool false,.bool false]) (ty:=63) (unhide HY) hz)) | (have HY:=hide ((unhide HY).below hz)));(first | (have HGG:=HF) | (have HGG:=HY));obtain ⟨⟨b0,b1,b2,b3⟩,⟨c0,c1⟩,p0,p1,s0⟩:=unhide HCp _ (unhide HGG).be)
          | (go_at_call 29;refine (unhide HRw2 _ ?_).mono ?_;(first | exact (unhide HF).be | exact (unhide HY).be | exact ((unhide HY).more (cs:=#[I 0,I 0,.string ⟨#[]⟩,I 0,I 0,.bool false,.bool false]) (ty:=63)).be);rintro e z2 ⟨rfl,hz⟩;(first | (have HF:=hide ((unhide HF).below hz)) | (have HF:=hide (cw_new_d (cs:=#[I 0,I 0,.string ⟨#[]⟩,I 0,I 0,.bool false,.bool false]) (ty:=63) (unhide HZ) hz)) | (have HF:=hide (cw_new (cs:=#[I 0,I 0,.string ⟨#[]⟩,I 0,I 0,.bool false,.bool false]) (ty:=63) (unhide HY) hz)) | (have HY:=hide ((unhide HY).below hz)));(first | (have HGG:=HF;obtain ⟨⟨b0,b1,b2,b3⟩,⟨c0,c1⟩,p0,p1,s0⟩:=unhide HCp _ (unhide HGG).be;obtain ⟨X1,X2,X3,X4,X5,X6,X7,⟨e1,e2,e3,e4,e5,e6,e7⟩,⟨g0,g1,g2,g3,g4,g5,g6⟩,⟨k0,k1,k2,k3,k4,k5,k6⟩,HX7⟩:=(unhide HF).store7 (I dm) (I dn) (.string la) (I am) (I an) (.bool ha) (.bool sl);obtain ⟨⟨b0,b1,b2,b3⟩,⟨c0,c1⟩,p0,p1,s0⟩:=unhide HCp _ (unhide HX7).be) | (obtain ⟨⟨b0,b1,b2,b3⟩,⟨c0,c1⟩,p0,p1,s0⟩:=unhide HCp _ (unhide HY).be;obtain ⟨A0,hA0,HFA⟩:=cw_alloc (cs:=#[I 0,I 0,.string ⟨#[]⟩,I 0,I 0,.bool false,.bool false]) (ty:=63) (unhide HY);obtain ⟨⟨b0,b1,b2,b3⟩,⟨c0,c1⟩,p0,p1,s0⟩:=unhide HCp _ HFA.be;obtain ⟨X1,X2,X3,X4,X5,X6,X7,⟨e1,e2,e3,e4,e5,e6,e7⟩,⟨g0,g1,g2,g3,g4,g5,g6⟩,⟨k0,k1,k2,k3,k4,k5,k6⟩,HX7⟩:=HFA.store7 (I dm) (I dn) (.string la) (I am) (I an) (.bool ha) (.bool sl);clear HFA;obtain ⟨⟨b0,b1,b2,b3⟩,⟨c0,c1⟩,p0,p1,s0⟩:=unhide HCp _ (unhide HX7).be))))
        all_goals
         go_wp2_with fail
         go_meet
         case rel=>first | exact ⟨_,rfl,rfl,rfl,HX7⟩ | exact ⟨_,rfl,rfl,rfl,hide (unhide HX7).drew⟩
       case rest =>
       clear HZ
       obtain ⟨q23,rfl,rfl,rfl,HZ⟩:=hcut
       obtain ⟨G2,hG2⟩:∃ G2,G2=wc:=⟨_,rfl⟩
       rw [← hG2] at HZ ⊢
       clear hG2 wc
       have HSm:=hide (same_any dm dn am an la ha sl)
       have HY:=hide (unhide HZ).drew
       obtain ⟨⟨b0,b1,b2,b3⟩,⟨c0,c1⟩,p0,p1,s0⟩:=unhide HCp _ (unhide HZ).be;obtain ⟨r0,r1,r2,r3,r4,r5,r6,z0,z1,z2,z3,z4,z5,z6⟩:=cw_two (unhide HZ)
       go_upto_region 24 with fail
       go_cut [170] from 130 to 169 (fun s170 wd=>s170=.bool false∧Hid (Below P.heap.size P wd))
       case first =>
        go_region_held3 (fun w'=>w'.cell? ⟨q22,0,none⟩=some (I dm)∧w'.cell? ⟨q22,1,none⟩=some (I dn)∧w'.cell? ⟨q22,2,none⟩=some (.string la)∧w'.cell? ⟨q22,3,none⟩=some (I am)∧w'.cell? ⟨q22,4,none⟩=some (I an)∧w'.cell? ⟨q22,5,none⟩=some (.bool ha)∧w'.cell? ⟨q22,6,none⟩=some (.bool sl)∧w'.cell? ⟨q23,0,none⟩=some (I dm)∧w'.cell? ⟨q23,1,none⟩=some (I dn)∧w'.cell? ⟨q23,2,none⟩=some (.string la)∧w'.cell? ⟨q23,3,none⟩=some (I am)∧w'.cell? ⟨q23,4,none⟩=some (I an)∧w'.cell? ⟨q23,5,none⟩=some (.bool ha)∧w'.cell? ⟨q23,6,none⟩=some (.bool sl)∧w'.cell? ⟨yb,0,none⟩=some (P0 t)∧w'.cell? ⟨yb,1,none⟩=some (P0 m)∧w'.cell? ⟨yb,2,none⟩=some (P0 r)∧w'.cell? ⟨yb,3,none⟩=some (P0 (R + 1))∧w'.cell? ⟨yc,0,none⟩=some (I cu)∧w'.cell? ⟨yc,1,none⟩=some (I cg)∧w'.cell? ⟨pq,0,none⟩=some (I xm)∧w'.cell? ⟨pq,1,none⟩=some (I xn)∧w'.cell? ⟨bq,oq + i,none⟩=some (.string sq)) (go_keep)
         (first
          | (go_at_call 30;refine (unhide HSm _).mono ?_;rintro e z1 ⟨rfl,hz⟩;have HY:=hide ((unhide HY).below hz);obtain ⟨⟨b0,b1,b2,b3⟩,⟨c0,c1⟩,p0,p1,s0⟩:=unhide HCp _ (unhide HY).be;obtain ⟨r0,r1,r2,r3,r4,r5,r6,z0,z1,z2,z3,z4,z5,z6⟩:=cw_two (unhide HY))
          | (go_at_call 32;refine (unhide HPl2 _ (unhide HY).be).mono ?_;rintro e z1 ⟨rfl,hz⟩;have HY:=hide ((unhide HY).below hz);obtain ⟨⟨b0,b1,b2,b3⟩,⟨c0,c1⟩,p0,p1,s0⟩:=unhide HCp _ (unhide HY).be;obtain ⟨r0,r1,r2,r3,r4,r5,r6,z0,z1,z2,z3,z4,z5,z6⟩:=cw_two (unhide HY))
          | (go_at_call 36;refine (unhide HRp2 _ (unhide HY).be).mono ?_;rintro e z1 ⟨rfl,hz⟩;have HY:=hide ((unhide HY).below hz);obtain ⟨⟨b0,b1,b2,b3⟩,⟨c0,c1⟩,p0,p1,s0⟩:=unhide HCp _ (unhide HY).be;obtain ⟨r0,r1,r2,r3,r4,r5,r6,z0,z1,z2,z3,z4,z5,z6⟩:=cw_two (unhide HY))
          | (go_at_call 28;refine (unhide HTop _).mono ?_;rintro e z1 ⟨rfl,hz⟩;have HY:=hide ((unhide HY).below hz);obtain ⟨⟨b0,b1,b2,b3⟩,⟨c0,c1⟩,p0,p1,s0⟩:=unhide HCp _ (unhide HY).be;obtain ⟨r0,r1,r2,r3,r4,r5,r6,z0,z1,z2,z3,z4,z5,z6⟩:=cw_two (unhide HY))
          | (go_at_call 31;refine (unhide HSt2 _ (unhide HY).be).mono ?_;rintro e z1 ⟨rfl,hz⟩;have HY:=hide ((unhide HY).below hz);obtain ⟨⟨b0,b1,b2,b3⟩,⟨c0,c1⟩,p0,p1,s0⟩:=unhide HCp _ (unhide HY).be;obtain ⟨r0,r1,r2,r3,r4,r5,r6,z0,z1,z2,z3,z4,z5,z6⟩:=cw_two (unhide HY)))
        all_goals
         go_wp2_with fail
         go_meet
         case rel=>first | exact ⟨rfl,hide (unhide HY).be⟩ | exact ⟨by simp,hide (unhide HY).be⟩
       case rest =>
       obtain ⟨rfl,HBd⟩:=hcut
       obtain ⟨G3,hG3⟩:∃ G3,G3=wc:=⟨_,rfl⟩
       rw [← hG3] at HBd ⊢
       clear hG3 wc HZ HY b0 b1 b2 b3 c0 c1 p0 p1 s0 r0 r1 r2 r3 r4 r5 r6 z0 z1 z2 z3 z4 z5 z6
       go_wp2_with fail
       exact ⟨⟨j + 1,by simp,by omega,hide ((unhide HB3P).trans ((unhide HBd).mono (unhide HB3P).size))⟩,by simp [intOf];omega⟩
      ·obtain rfl:j=3:=by omega
       go_wp2_with fail
       exact ⟨⟨i + 1,by simp,by omega,hide ((unhide HB3).trans ((unhide HBj).mono (unhide HB3).size))⟩,by simp [intOf];omega⟩
   ·have j1:¬ (i:Int) < (ns:Int):=by omega
    go_wp2_with (go_at_call 33;refine (unhide HKn _).mono ?_;rintro e z5 ⟨rfl,hz5⟩)
    go_ret
    exact ⟨rfl,(unhide Hb2w).trans (((unhide HB).trans (hz5.mono (unhide HB).size)).mono (unhide Hb2w).size)⟩
open Go.ChangeShapes Go.WideShapes Go.ChangeAt Go.RowKit
theorem cred_of {H:Type} {enc:TypeId × Value→H} {w:World} {r:Reach} {base:Nat} {held:Bool} {v:Value} {d:DataW H} {ps:List MemPlace}
  (hv:Value.okWide Tryz.prog w r base 57 v) (h:DataW.Trod enc Tryz.prog w 0 (fun _=>true) held 57 v d ps):∃ u g,v=.agg #[I u,I g]∧Iw u∧Iw g:=by
 obtain ⟨cs,rfl,hs⟩:=okWide_struct Tryz.underlying57 hv
 rw [cellsC] at hs
 obtain ⟨fuel,hf⟩:=h
 obtain ⟨xs,k,hk,hxy,_,hxl,hf⟩:=DataW.trod_struct Tryz.underlying57 hf
 match xs,hxl,cs,hs with
 | [y0,y1],_,⟨[v0,v1]⟩,_ =>
  have g0:=hf 0 _ rfl
  have g1:=hf 1 _ rfl
  simp [cells3,Value.cells] at g0 g1
  obtain ⟨n0,e0,_,m0⟩:=DataW.trod_int Tryz.underlying3 g0
  obtain ⟨n1,e1,_,m1⟩:=DataW.trod_int Tryz.underlying3 g1
  simp at e0 e1
  subst e0 e1
  exact ⟨_,_,rfl,iw_of m0,iw_of m1⟩
theorem place_of {H:Type} {enc:TypeId × Value→H} {w:World} {r:Reach} {base:Nat} {held:Bool} {v:Value} {d:DataW H} {ps:List MemPlace}
  (hv:Value.okWide Tryz.prog w r base 50 v) (h:DataW.Trod enc Tryz.prog w 0 (fun _=>true) held 50 v d ps):∃ u g,v=.agg #[I u,I g]∧Iw u∧Iw g:=by
 obtain ⟨cs,rfl,hs⟩:=okWide_struct Tryz.underlying50 hv
 rw [cellsP] at hs
 obtain ⟨fuel,hf⟩:=h
 obtain ⟨xs,k,hk,hxy,_,hxl,hf⟩:=DataW.trod_struct Tryz.underlying50 hf
 match xs,hxl,cs,hs with
 | [y0,y1],_,⟨[v0,v1]⟩,_ =>
  have g0:=hf 0 _ rfl
  have g1:=hf 1 _ rfl
  simp [cells3,Value.cells] at g0 g1
  obtain ⟨n0,e0,_,m0⟩:=DataW.trod_int Tryz.underlying3 g0
  obtain ⟨n1,e1,_,m1⟩:=DataW.trod_int Tryz.underlying3 g1
  simp at e0 e1
  subst e0 e1
  exact ⟨_,_,rfl,iw_of m0,iw_of m1⟩
end Go.Proofs.YtlngeaacjbdmhaaGreat.Bt
