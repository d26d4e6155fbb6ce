/-
 The contract of Read at a text that is not refused as a whole: its parts,one by one.
-/
import Derived.Test.YtlngeaacjbdmhaaGreatPp14
import Derived.Test.YtlngeaacjbdmhaaGreatPp13
import Derived.Test.YtlngeaacjbdmhaaGreatPp08
import Derived.Deep.CutRange
set_option maxRecDepth 100000
set_option maxHeartbeats 1000000
namespace Go.Proofs.YtlngeaacjbdmhaaGreat.Nm
open Go.RowKit Go.Shelf
attribute [local go_sem] Oper.semAt_some
theorem read_yes (l:List UInt8) (w:World) (href:ref1 l=0) :
  CallsIn Fence.wide 4 Tryz.prog 157 #[S l] w fun e w'=>∃ v,e=.returned (.tuple #[.agg #[.bool (rt l),.bool (sl l),v],.int .i64 (err l)])∧w'.ownsRow w.heap.size 9 1 v (ps l).length (strs (ps l))∧Below w.heap.size w w':=by
 have hro:Fence.wide.round=none:=rfl
 have H:=hide (refusal_any l)
 obtain ⟨hl0,hl1,hl2⟩:=ref_ok href
 rw [href] at H
 obtain ⟨i0,hi,hz0,hz1,hz2⟩:=info_parts info9
 have hs9:(bs l).size≤9223372036854775807:=by simp [ByteArray.size];omega
 refine callsIn_of_wp_marks Tryz.func157 rfl trivial ?_ hro
 simp only [Tryz.ntmps157,List.size_toArray,List.length_cons,List.length_nil,Nat.reduceAdd,Nat.reduceSub,Array.replicate_succ,Array.replicate_zero,List.push_toArray,List.append_toArray,List.nil_append,List.cons_append]
 gi_wp2_with fail
 refine ⟨trivial,(callsIn_wide.2 (unhide H _)).mono ?_⟩
 rintro e w' ⟨rfl,rfl⟩
 gi_wp2_with fail
 refine ⟨trivial,(callsIn_wide.2 (Tryz.strings_HasPrefix _ _ _)).mono ?_⟩
 rintro e w' ⟨rfl,rfl⟩
 gi_wp2_with fail
 refine ⟨trivial,(callsIn_wide.2 (Tryz.strings_HasSuffix _ _ _ hs9)).mono ?_⟩
 rintro e w' ⟨rfl,rfl⟩
 generalize hpp:Lib.hasPrefix _ _=pp
 generalize hss:Lib.hasSuffix _ _=ss
 replace hpp:=hide hpp
 replace hss:=hide hss
 clear href H
 gi_wp2_with fail
 refine ⟨trivial,(callsIn_wide.2 (parts_any _ _)).mono ?_⟩
 rintro e w' ⟨rfl,rfl⟩
 gi_wp2_with fail
 obtain ⟨V,hV,hsz,g0,g1,g2,g3,hB⟩:=four0 w (.cells #[.bool false,.bool false,.slice none 0 0] 234) (.cells #[.int .i64 0] 24) (.cells #[.bool pp,.bool ss,.slice none 0 0] 234) (.cells #[S l] 9)
 rw [hV]
 clear hV
 generalize hh:w.heap.size=h at *
 have HH:Hid (w.heap.size=h):=hh
 simp only [Nat.add_assoc,Nat.reduceAdd]
 refine wpIn_range_ret hro (by omega) (gf:=289) (lb:=#[.pointer (some ⟨h + 3,0,none⟩)]) rfl trivial (enters_of Tryz.func289 (by kernel_rfl) rfl) ?_
 intro r hF hst hpe htm hps has hbo
 obtain ⟨L1,D1,hB2⟩:=setup V r
 rw [hsz] at L1 D1 ⊢
 have x1:=(hB2.block _ (by omega)).trans g3
 generalize ((V.alloc (.deferred (some []))).alloc (.loop r))=W1 at L1 D1 hB2 x1 ⊢
 have J0:RJ w W1 r h l pp ss l:=⟨L1,D1,hB.trans (hB2.mono (by omega)),(hB2.block _ (by omega)).trans g0,(hB2.block _ (by omega)).trans g1,.slice none 0 0,[],(hB2.block _ (by omega)).trans g2,rfl,by simp,World.ownsRow_nil _ _ _ _⟩
 clear L1 D1 hB2 g0 g1 g2 g3 hB
 refine (iter_go (h + 5) (h + 3) l W1 (fun rest W=>RJ w W r h l pp ss rest) (fun W=>RE w W h l) (by omega) J0 (by rw [cell_of x1];rfl) (fun _ _ n J=>J.drewN n) (fun _ _ J hb=>J.skip hb) ?_).mono ?_
 ·intro rest W2 J hrl hbn
  refine yield_ret hF hst hpe htm hps has hbo rfl J.lp ?_
  clear htm hps has hbo hst hpe J0 x1
  intro rb
  gi_wp2
  refine ⟨J.lp,?_⟩
  have J4:=J.put rb
  have HP:=hide (fun (W:World) (J:RJ w W rb h l pp ss (behind rest))=>J.put r)
  generalize W2.putObj (h + 5) (.loop rb)=W4 at *
  clear J
  obtain ⟨v,dn,o1,o2,o3,o4⟩:=J4.ow
  generalize hbf:before rest=q at *
  have hq:parts rest=q :: parts (behind rest):=by rw [parts_cut,hbf];simp [piece,hbn]
  have z0:W4.cell? ⟨h,0,none⟩=some (.bool false):=by rw [cell_of J4.k0];rfl
  have z1:W4.cell? ⟨h,1,none⟩=some (.bool false):=by rw [cell_of J4.k0];rfl
  have z2:W4.cell? ⟨h,2,none⟩=some (.slice none 0 0):=by rw [cell_of J4.k0];rfl
  have zf0:W4.frozen? ⟨h,0,none⟩=false:=frozen_of J4.k0 0
  have zf1:W4.frozen? ⟨h,1,none⟩=false:=frozen_of J4.k0 1
  have zf2:W4.frozen? ⟨h,2,none⟩=false:=frozen_of J4.k0 2
  have y0:W4.cell? ⟨h + 1,0,none⟩=some (.int .i64 0):=by rw [cell_of J4.k1];rfl
  have yf:W4.frozen? ⟨h + 1,0,none⟩=false:=frozen_of J4.k1 0
  by_cases hlong:255 < q.length
  ·have hl3:(255:Int) < (q.length:Int):=by omega
   have lp4:=J4.lp
   have HJ:=hide J4
   have HQ:=hide (⟨q,by rw [o2,hq];simp,hlong⟩:∃ q ∈ parts l,255 < q.length)
   clear J4 o1 o4 o2 o3 hq hlong hbf hbn hl0 hl1 hl2 hi hz0 hz1 hz2 hs9
   obtain ⟨X,hX⟩:∃ X,(((W4.setCell ⟨h,0,none⟩ (.bool false)).setCell ⟨h,1,none⟩ (.bool false)).setCell ⟨h,2,none⟩ (.slice none 0 0)).setCell ⟨h + 1,0,none⟩ (.int .i64 45)=X:=⟨_,rfl⟩
   refine wpIn_mono (Q:=fun e _ w1=>e=.ret∧w1=X) ?_ ?_
   ·rw [← hX]
    clear hX lp4 HJ HQ HP hF hh hsz HH
    gi_wp2_with fail
   ·rintro e a w1 ⟨rfl,rfl⟩
    have J4:=unhide HJ
    have kp:∀ {k:Nat} {o:Obj},W4.heap[k]?=some o→k≠h→k≠h + 1→w1.heap[k]?=some o:=fun h1 h2 h3=>by
     rw [← hX,Below.heap_setCell _ _ _ _ h3,Below.heap_setCell _ _ _ _ h2,Below.heap_setCell _ _ _ _ h2,Below.heap_setCell _ _ _ _ h2];exact h1
    have q0:w1.heap[h]?=some (.cells #[.bool false,.bool false,.slice none 0 0] 234):=by
     rw [← hX,Below.heap_setCell _ _ _ _ (by simp),heap_set (heap_set (heap_set J4.k0 0 _) 1 _) 2 _];simp
    have q1:w1.heap[h + 1]?=some (.cells #[.int .i64 45] 24):=by
     rw [← hX,heap_set (((Below.heap_setCell _ _ _ _ (by simp)).trans ((Below.heap_setCell _ _ _ _ (by simp)).trans ((Below.heap_setCell _ _ _ _ (by simp)).trans J4.k1)))) 0 _];simp
    have lp:=kp J4.lp (by omega) (by omega)
    have be:Below h w w1:=by
     rw [← hX]
     exact (((J4.be.setCell (p:=⟨h,0,none⟩) (by simp) _).setCell (p:=⟨h,1,none⟩) (by simp) _).setCell (p:=⟨h,2,none⟩) (by simp) _).setCell (p:=⟨h + 1,0,none⟩) (by simp) _
    exact ⟨lp,.inr ⟨rfl,.inr ⟨trivial,⟨_,rfl,rfl,World.putObj_heap_same (lt_of_heap lp)⟩,put_other lp (kp J4.dd (by omega) (by omega)) (by simp),below_put be (by omega),put_other lp q0 (by simp),put_other lp q1 (by simp),unhide HQ⟩⟩⟩
  ·have hl3:¬ (255:Int) < (q.length:Int):=by omega
   obtain ⟨v,c0,MORE⟩:=J4.drew.more hq (by omega) hl1
   replace MORE:=hide MORE
   obtain ⟨R,hR⟩:∃ R:World→Prop,R=fun w1=>w1.heap[h + 5]?=some (.loop rb)∧RJ w w1 rb h l pp ss (behind rest):=⟨_,rfl⟩
   have HR:Hid (∀ w1:World,w1.heap[h + 5]?=some (.loop rb)∧RJ w w1 rb h l pp ss (behind rest)→R w1):=hide (fun w1 h1=>by rw [hR];exact h1)
   replace hR:=hide hR
   have hqs:(bs q).size≤281474976710656:=by simp [ByteArray.size];omega
   refine wpIn_mono (Q:=fun e _ w1=>e=.normal∧R w1) ?_ ?_
   ·clear HP hF hh hsz HH J4 o1 o4 o2 o3 hq hlong hbf hbn hl0 hl1 hl2 hi hz0 hz1 hz2 hs9 z0 z1 z2 zf0 zf1 zf2 y0 yf
    gi_wp2_with fail
    refine wpIn_region_round (by kernel_rfl) (by kernel_rfl) ?_
    generalize W4.drew=X at *
    refine wpAnyIn_take (i:=0) (v:=?_) rfl rfl (by kernel_rfl) (by kernel_rfl) (by kernel_rfl) (fun _ _ _ h=>h) ⟨Or.inl ⟨by rfl,?hy⟩,fun _=>rfl⟩ ?_
    case hy=>intro w;go_simp;all_goals with_reducible rfl
    refine wpAnyIn_take (i:=2) (v:=?_) rfl rfl (by kernel_rfl) (by kernel_rfl) (by kernel_rfl) (fun _ _ _ h=>h) ⟨Or.inl ⟨by rfl,?hy⟩,fun _=>rfl⟩ ?_
    case hy=>intro w;go_simp;all_goals with_reducible rfl
    refine wpAnyIn_ready (rs:=[1,3]) (by kernel_rfl) (by simp) ?_
    refine AllReadyIn.cons rfl (fun K hK=>?_) ?_
    ·go_simp
     refine hK _ _ ?_
     clear hK K
     refine wpAnyIn_ready (rs:=[3]) (by kernel_rfl) (by simp) ?_
     refine AllReadyIn.cons rfl (fun K hK=>?_) ?_
     ·go_simp
      refine ⟨trivial,(callsIn_wide.2 (clone_any _ _ hqs)).mono ?_⟩
      rintro e X2 ⟨rfl,hB⟩
      obtain ⟨cx,cy,sa,sm,sc,W6,hrun,d0,df,FIN⟩:=unhide MORE X2 hB
      replace FIN:=hide (unhide HR _ FIN)
      clear hB
      refine hK _ _ ?_
      clear hK K
      refine wpAnyIn_ready (rs:=[4]) (by kernel_rfl) (by simp) ?_
      refine AllReadyIn.cons rfl (fun K hK=>?_) ?_
      ·go_simp
       refine hK _ _ ?_
       clear hK K
       refine wpAnyIn_ready (rs:=[5]) (by kernel_rfl) (by simp) ?_
       refine AllReadyIn.cons rfl (fun K hK=>?_) ?_
       ·refine stepIn_append_eq (by rfl) _ _ 55 (by rfl) 55 (by rfl) _ _ (by rfl) (by rfl) _ _ hrun ?_
        refine hK _ _ ?_
        clear hK K
        refine wpAnyIn_ready (rs:=[6]) (by kernel_rfl) (by simp) ?_
        refine AllReadyIn.cons rfl (fun K hK=>?_) ?_
        ·go_simp
         refine hK _ _ ?_
         clear hK K
         refine wpAnyIn_ready (rs:=[7]) (by kernel_rfl) (by simp) ?_
         refine AllReadyIn.cons rfl (fun K hK=>?_) ?_
         ·go_simp
          refine hK _ _ ?_
          clear hK K
          refine wpAnyIn_done (by kernel_rfl) ?_ _
          gi_wp2_with fail
          exact FIN
         exact AllReadyIn.nil
        exact AllReadyIn.nil
       exact AllReadyIn.nil
      exact AllReadyIn.nil
     exact AllReadyIn.nil
    refine AllReadyIn.cons rfl (fun K hK=>?_) ?_
    ·go_simp
     refine ⟨trivial,(callsIn_wide.2 (clone_any _ _ hqs)).mono ?_⟩
     rintro e X2 ⟨rfl,hB⟩
     obtain ⟨cx,cy,sa,sm,sc,W6,hrun,d0,df,FIN⟩:=unhide MORE X2 hB
     replace FIN:=hide (unhide HR _ FIN)
     clear hB
     refine hK _ _ ?_
     clear hK K
     refine wpAnyIn_ready (rs:=[1,4]) (by kernel_rfl) (by simp) ?_
     refine AllReadyIn.cons rfl (fun K hK=>?_) ?_
     ·go_simp
      refine hK _ _ ?_
      clear hK K
      refine wpAnyIn_ready (rs:=[4]) (by kernel_rfl) (by simp) ?_
      refine AllReadyIn.cons rfl (fun K hK=>?_) ?_
      ·go_simp
       refine hK _ _ ?_
       clear hK K
       refine wpAnyIn_ready (rs:=[5]) (by kernel_rfl) (by simp) ?_
       refine AllReadyIn.cons rfl (fun K hK=>?_) ?_
       ·refine stepIn_append_eq (by rfl) _ _ 55 (by rfl) 55 (by rfl) _ _ (by rfl) (by rfl) _ _ hrun ?_
        refine hK _ _ ?_
        clear hK K
        refine wpAnyIn_ready (rs:=[6]) (by kernel_rfl) (by simp) ?_
        refine AllReadyIn.cons rfl (fun K hK=>?_) ?_
        ·go_simp
         refine hK _ _ ?_
         clear hK K
         refine wpAnyIn_ready (rs:=[7]) (by kernel_rfl) (by simp) ?_
         refine AllReadyIn.cons rfl (fun K hK=>?_) ?_
         ·go_simp
          refine hK _ _ ?_
          clear hK K
          refine wpAnyIn_done (by kernel_rfl) ?_ _
          gi_wp2_with fail
          exact FIN
         exact AllReadyIn.nil
        exact AllReadyIn.nil
       exact AllReadyIn.nil
      exact AllReadyIn.nil
     refine AllReadyIn.cons rfl (fun K hK=>?_) ?_
     ·go_simp
      refine hK _ _ ?_
      clear hK K
      refine wpAnyIn_ready (rs:=[1]) (by kernel_rfl) (by simp) ?_
      refine AllReadyIn.cons rfl (fun K hK=>?_) ?_
      ·go_simp
       refine hK _ _ ?_
       clear hK K
       refine wpAnyIn_ready (rs:=[5]) (by kernel_rfl) (by simp) ?_
       refine AllReadyIn.cons rfl (fun K hK=>?_) ?_
       ·refine stepIn_append_eq (by rfl) _ _ 55 (by rfl) 55 (by rfl) _ _ (by rfl) (by rfl) _ _ hrun ?_
        refine hK _ _ ?_
        clear hK K
        refine wpAnyIn_ready (rs:=[6]) (by kernel_rfl) (by simp) ?_
        refine AllReadyIn.cons rfl (fun K hK=>?_) ?_
        ·go_simp
         refine hK _ _ ?_
         clear hK K
         refine wpAnyIn_ready (rs:=[7]) (by kernel_rfl) (by simp) ?_
         refine AllReadyIn.cons rfl (fun K hK=>?_) ?_
         ·go_simp
          refine hK _ _ ?_
          clear hK K
          refine wpAnyIn_done (by kernel_rfl) ?_ _
          gi_wp2_with fail
          exact FIN
         exact AllReadyIn.nil
        exact AllReadyIn.nil
       exact AllReadyIn.nil
      exact AllReadyIn.nil
     exact AllReadyIn.nil
    exact AllReadyIn.nil
   ·rintro e a w1 ⟨rfl,hr1⟩
    rw [unhide hR] at hr1
    exact ⟨hr1.1,.inl ⟨rfl,.inl ⟨trivial,unhide HP _ hr1.2⟩⟩⟩
 ·rintro e W2 ⟨rfl,J | J⟩
  ·refine ⟨⟨_,rfl⟩,.inl ⟨J.lp,?_⟩⟩
   have J6:=J.put { r with state:=.exhausted }
   generalize W2.putObj (h + 5) (.loop { r with state:=.exhausted })=W3 at *
   obtain ⟨v,dn,o1,o2,o3,o4⟩:=J6.ow
   rw [parts_nil,List.append_nil] at o2
   have z0:W3.cell? ⟨h,0,none⟩=some (.bool false):=by rw [cell_of J6.k0];rfl
   have z1:W3.cell? ⟨h,1,none⟩=some (.bool false):=by rw [cell_of J6.k0];rfl
   have z2:W3.cell? ⟨h,2,none⟩=some (.slice none 0 0):=by rw [cell_of J6.k0];rfl
   have zf0:W3.frozen? ⟨h,0,none⟩=false:=frozen_of J6.k0 0
   have zf1:W3.frozen? ⟨h,1,none⟩=false:=frozen_of J6.k0 1
   have zf2:W3.frozen? ⟨h,2,none⟩=false:=frozen_of J6.k0 2
   have y0:W3.cell? ⟨h + 1,0,none⟩=some (.int .i64 0):=by rw [cell_of J6.k1];rfl
   have yf:W3.frozen? ⟨h + 1,0,none⟩=false:=frozen_of J6.k1 0
   have x0:W3.cell? ⟨h + 2,0,none⟩=some (.bool pp):=by rw [cell_of o1];rfl
   have x1:W3.cell? ⟨h + 2,1,none⟩=some (.bool ss):=by rw [cell_of o1];rfl
   have x2:W3.cell? ⟨h + 2,2,none⟩=some v:=by rw [cell_of o1];rfl
   have hok:err l=0:=err_of hl0 hl1 hl2 (by rw [o2];exact o3)
   have hrt:rt l=pp:=by rw [← unhide hpp];simp [rt,hok,Lib.hasPrefix]
   have hsl:sl l=ss:=by rw [← unhide hss];simp [sl,hok,Lib.hasSuffix]
   have hps:ps l=dn:=by simp [ps,hok,o2]
   have HN:=hide (show _∧_∧_∧_ from ⟨hok,hrt,hsl,hps⟩)
   have HJ:=hide J6
   have HO:=hide o4
   have HO1:=hide o1
   obtain ⟨va,vc,rfl⟩:=own_form o4
   clear J J6 o1 o2 o3 o4 hrt hsl hps hok J0 htm has hbo hst hpe hpp hss hl0 hl1 hl2 hi hz0 hz1 hz2 hs9 hF
   gi_wp2_with fail
   obtain ⟨X,hX⟩:∃ X,(((W3.setCell ⟨h,0,none⟩ (.bool pp)).setCell ⟨h,1,none⟩ (.bool ss)).setCell ⟨h,2,none⟩ (.slice va dn.length vc)).setCell ⟨h + 1,0,none⟩ (.int .i64 0)=X:=⟨_,rfl⟩
   rw [hX]
   have J6:=unhide HJ
   have kp:∀ {k:Nat} {o:Obj},W3.heap[k]?=some o→k≠h→k≠h + 1→X.heap[k]?=some o:=fun h1 h2 h3=>by
    rw [← hX,Below.heap_setCell _ _ _ _ h3,Below.heap_setCell _ _ _ _ h2,Below.heap_setCell _ _ _ _ h2,Below.heap_setCell _ _ _ _ h2];exact h1
   have q0:X.heap[h]?=some (.cells #[.bool pp,.bool ss,.slice va dn.length vc] 234):=by
    rw [← hX,Below.heap_setCell _ _ _ _ (by simp),heap_set (heap_set (heap_set J6.k0 0 _) 1 _) 2 _];simp
   have q1:X.heap[h + 1]?=some (.cells #[.int .i64 0] 24):=by
    rw [← hX,heap_set (((Below.heap_setCell _ _ _ _ (by simp)).trans ((Below.heap_setCell _ _ _ _ (by simp)).trans ((Below.heap_setCell _ _ _ _ (by simp)).trans J6.k1)))) 0 _];simp
   have be:Below h w X:=by
    rw [← hX]
    exact (((J6.be.setCell (p:=⟨h,0,none⟩) (by simp) _).setCell (p:=⟨h,1,none⟩) (by simp) _).setCell (p:=⟨h,2,none⟩) (by simp) _).setCell (p:=⟨h + 1,0,none⟩) (by simp) _
   have own7:X.ownsRow h 9 1 (.slice va dn.length vc) dn.length (strs dn):=own_keep (unhide HO) fun k cur hc=>(kp hc (by rintro rfl;rw [J6.k0] at hc;simp at hc) (by rintro rfl;rw [J6.k1] at hc;simp at hc)).trans hc.symm
   have dd5:=kp J6.dd (by omega) (by omega)
   refine ⟨by simp,.inl ⟨_,_,rfl,run_takeDeferred dd5,?_⟩⟩
   have b7:=below_put (k:=h + 4) (o:=.deferred none) be (by omega)
   have p0:(X.putObj (h + 4) (.deferred none)).heap[h]?=_:=(World.putObj_heap_other (by omega)).trans q0
   have p1:(X.putObj (h + 4) (.deferred none)).heap[h + 1]?=_:=(World.putObj_heap_other (by omega)).trans q1
   have own8:(X.putObj (h + 4) (.deferred none)).ownsRow h 9 1 (.slice va dn.length vc) dn.length (strs dn):=own_keep own7 fun k cur hc=>World.putObj_heap_other (by rintro rfl;rw [dd5] at hc;simp at hc)
   have c0:(X.putObj (h + 4) (.deferred none)).cell? ⟨h,0,none⟩=some (.bool pp):=by rw [cell_of p0];rfl
   have c1:(X.putObj (h + 4) (.deferred none)).cell? ⟨h,1,none⟩=some (.bool ss):=by rw [cell_of p0];rfl
   have c2:(X.putObj (h + 4) (.deferred none)).cell? ⟨h,2,none⟩=some (.slice va dn.length vc):=by rw [cell_of p0];rfl
   have c3:(X.putObj (h + 4) (.deferred none)).cell? ⟨h + 1,0,none⟩=some (.int .i64 0):=by rw [cell_of p1];rfl
   obtain ⟨n0,n1,n2,n3⟩:=unhide HN
   rw [unhide HH,n0,n1,n2,n3]
   exact ⟨.tuple #[.agg #[.bool pp,.bool ss,.slice va dn.length vc],.int .i64 0],by simp [results,Tryz.results157,go_sem,c0,c1,c2,c3],_,rfl,own8,b7⟩
  ·obtain ⟨rd,hd1,hd2,lp⟩:=J.lp
   refine ⟨⟨_,rfl⟩,.inr ⟨rd,hd1,hd2,lp,?_⟩⟩
   have k0:=put_other (r':={ rd with state:=.exhausted }) lp J.k0 (by simp)
   have k1:=put_other (r':={ rd with state:=.exhausted }) lp J.k1 (by simp)
   have dd:=put_other (r':={ rd with state:=.exhausted }) lp J.dd (by simp)
   have be:=below_put (k:=h + 5) (o:=.loop { rd with state:=.exhausted }) J.be (by omega)
   have HE:=hide J.er
   generalize W2.putObj (h + 5) (.loop { rd with state:=.exhausted })=W3 at *
   have HF:=hide (show _∧_∧_∧_ from ⟨k0,k1,dd,be⟩)
   clear J J0 k0 k1 dd be htm hps has hbo hst hpe lp hd1 hd2
   gi_wp2_with fail
   obtain ⟨k0,k1,dd,be⟩:=unhide HF
   refine ⟨by simp,.inl ⟨_,_,rfl,run_takeDeferred dd,?_⟩⟩
   have q0:(W3.putObj (h + 4) (.deferred none)).heap[h]?=_:=(World.putObj_heap_other (by omega)).trans k0
   have q1:(W3.putObj (h + 4) (.deferred none)).heap[h + 1]?=_:=(World.putObj_heap_other (by omega)).trans k1
   have b7:=below_put (k:=h + 4) (o:=.deferred none) be (by omega)
   have c0:(W3.putObj (h + 4) (.deferred none)).cell? ⟨h,0,none⟩=some (.bool false):=by rw [cell_of q0];rfl
   have c1:(W3.putObj (h + 4) (.deferred none)).cell? ⟨h,1,none⟩=some (.bool false):=by rw [cell_of q0];rfl
   have c2:(W3.putObj (h + 4) (.deferred none)).cell? ⟨h,2,none⟩=some (.slice none 0 0):=by rw [cell_of q0];rfl
   have c3:(W3.putObj (h + 4) (.deferred none)).cell? ⟨h + 1,0,none⟩=some (.int .i64 45):=by rw [cell_of q1];rfl
   have he:err l=45:=by
    obtain ⟨q,hq1,hq2⟩:=unhide HE
    unfold err
    rw [if_neg hl0,if_neg (by omega),if_neg hl2,if_pos]
    rw [List.any_eq_true]
    exact ⟨q,hq1,by simpa using hq2⟩
   have e1:rt l=false:=by simp [rt,he]
   have e2:sl l=false:=by simp [sl,he]
   have e3:ps l=[]:=by simp [ps,he]
   rw [unhide HH,e1,e2,e3,he]
   exact ⟨.tuple #[.agg #[.bool false,.bool false,.slice none 0 0],.int .i64 45],by simp [results,Tryz.results157,go_sem,c0,c1,c2,c3],.slice none 0 0,rfl,World.ownsRow_nil _ _ _ _,b7⟩
theorem read_any (l:List UInt8) (w:World) :
  Calls Tryz.prog 157 #[S l] w fun e w'=>∃ v,e=.returned (.tuple #[.agg #[.bool (rt l),.bool (sl l),v],.int .i64 (err l)])∧w'.ownsRow w.heap.size 9 1 v (ps l).length (strs (ps l))∧Below w.heap.size w w':=by
 by_cases h:ref1 l=0
 ·exact callsIn_wide.1 (read_yes l w h)
 ·refine (callsIn_wide.1 (read_no l w h)).mono ?_
  rintro e w' ⟨rfl,hB⟩
  have he:=ref_err h
  have h1:err l≠0:=by rw [he];exact h
  have e1:rt l=false:=by simp [rt,h1]
  have e2:sl l=false:=by simp [sl,h1]
  have e3:ps l=[]:=by simp [ps,h1]
  rw [e1,e2,e3,he]
  exact ⟨_,rfl,World.ownsRow_nil _ _ _ _,hB⟩
end Go.Proofs.YtlngeaacjbdmhaaGreat.Nm
namespace Go.Proofs.YtlngeaacjbdmhaaGreat.Kr
open Go.RowKit
abbrev I (n:Int):Value:=.int .i64 n
abbrev Cr (u g:Int):Value:=.agg #[I u,I g]
abbrev St (n k m u g l z:Int):Value:=.agg #[I n,I k,I m,I u,I g,I l,I z]
theorem two (w:World) (a b:Obj):Below w.heap.size w ((w.alloc a).alloc b):=((Below.refl _ _).alloc (Nat.le_refl _) _).alloc (by simp) _
theorem three (w:World) (a b c:Obj):Below w.heap.size w (((w.alloc a).alloc b).alloc c):=(two w a b).alloc (by simp;omega) _
theorem Below.step {B:Nat} {u v w:World} (h:Below B u v) (g:Below v.heap.size v w) (hb:B≤u.heap.size):Below B u w:=h.trans (g.mono (Nat.le_trans hb h.size))
theorem hide {p:Prop} (h:p):Hid p:=h
theorem unhide {p:Prop} (h:Hid p):p:=h
structure Laid (w v:World) (os:List Obj):Prop where
 lies:∀ (i:Nat) (o:Obj),os[i]?=some o→v.heap[w.heap.size + i]?=some o
 below:Below w.heap.size w v
 room:w.heap.size + os.length≤v.heap.size
theorem Laid.nil (w:World):Laid w w []:=⟨fun i o h=>by simp at h,Below.refl _ _,by simp⟩
theorem Laid.step {w v v':World} {os:List Obj} (h:Laid w v os) (g:Below v.heap.size v v'):Laid w v' os :=
 ⟨fun i o hi=>(g.block _ (by have:=(List.getElem?_eq_some_iff.1 hi).1;have:=h.room;omega)).trans (h.lies i o hi),Below.step h.below g (Nat.le_refl _),Nat.le_trans h.room g.size⟩
theorem Laid.put {w v:World} {os:List Obj} (h:Laid w v os) (hs:v.heap.size=w.heap.size + os.length) (o:Obj):Laid w (v.alloc o) (os ++ [o]):=by
 refine ⟨fun i x hi=>?_,h.below.alloc (by omega) _,by simp;omega⟩
 by_cases hlt:i < os.length
 ·rw [List.getElem?_append_left hlt] at hi
  rw [Below.heap_alloc _ _ _ (by omega)]
  exact h.lies i x hi
 ·have h1:=(List.getElem?_eq_some_iff.1 hi).1
  simp at h1
  have:i=os.length:=by omega
  subst this
  simp at hi
  subst hi
  rw [← hs]
  exact heap_alloc_new v o
theorem cell_of {W:World} {b:Nat} {cs:Array Value} {t:TypeId} {f:Nat × Nat} (h:W.heap[b]?=some (.cells cs t f)) (i:Nat):W.cell? ⟨b,i,none⟩=cs[i]?:=by
 simp [World.cell?,h]
theorem frozen_of {W:World} {b:Nat} {cs:Array Value} {t:TypeId} (h:W.heap[b]?=some (.cells cs t)) (i:Nat):W.frozen? ⟨b,i,none⟩=false:=by
 simp [World.frozen?,h]
theorem heap_set {W:World} {b:Nat} {cs:Array Value} {t:TypeId} {f:Nat × Nat} (h:W.heap[b]?=some (.cells cs t f)) (i:Nat) (v:Value) :
  (W.setCell ⟨b,i,none⟩ v).heap[b]?=some (.cells (cs.setIfInBounds i v) t f):=by
 obtain ⟨hl,he⟩:=Array.getElem?_eq_some_iff.1 h
 simp [World.setCell,Array.getElem?_modify,h]
abbrev StO (n k m u g l z:Int):Obj:=.cells #[I n,I k,I m,I u,I g,I l,I z] 33
theorem Laid.st {w v:World} {os:List Obj} (h:Laid w v os) (i:Nat) {b:Nat} (hb:b=w.heap.size + i) {n k m u g l z:Int} (hi:os[i]?=some (StO n k m u g l z)) :
  v.cell? ⟨b,0,none⟩=some (I n)∧v.cell? ⟨b,1,none⟩=some (I k)∧v.cell? ⟨b,2,none⟩=some (I m)∧v.cell? ⟨b,3,none⟩=some (I u)∧v.cell? ⟨b,4,none⟩=some (I g)∧v.cell? ⟨b,5,none⟩=some (I l)∧v.cell? ⟨b,6,none⟩=some (I z)∧∀ j,v.frozen? ⟨b,j,none⟩=false:=by
 have:=h.lies i _ hi
 rw [← hb] at this
 refine ⟨?_,?_,?_,?_,?_,?_,?_,frozen_of this⟩ <;> rw [cell_of this] <;> rfl
theorem Laid.mode {w v:World} {os:List Obj} (h:Laid w v os) (i:Nat) {b:Nat} (hb:b=w.heap.size + i) {n k m u g l z:Int} (hi:os[i]?=some (StO n k m u g l z)) (x:Int) :
  Laid w (v.setCell ⟨b,2,none⟩ (I x)) (os.set i (StO n k x u g l z)):=by
 have h1:=h.lies i _ hi
 rw [← hb] at h1
 have hr:=h.room
 have hil:=(List.getElem?_eq_some_iff.1 hi).1
 refine ⟨fun j o hj=>?_,?_,by simpa using h.room⟩
 ·by_cases e:j=i
  ·subst e
   rw [List.getElem?_set_self hil] at hj
   cases hj
   rw [← hb,heap_set h1]
   rfl
  ·rw [List.getElem?_set_ne (by omega)] at hj
   rw [Below.heap_setCell _ _ _ _ (by simp;omega)]
   exact h.lies j o hj
 ·exact h.below.setCell (by simp;omega) _
theorem bits_any (cu cg n k m u g l z:Int) (w:World):Calls Tryz.prog 296 #[Cr cu cg,St n k m u g l z] w fun e w'=>e=.returned (I (cnt cu cg m u g))∧Below w.heap.size w w':=by
 go_enter Tryz.func296,Tryz.ntmps296
 go_wp2_with fail
 all_goals go_ret
 ·rename_i h0
  exact ⟨by simp_all [cnt],two _ _ _⟩
 ·rename_i h0 h1
  exact ⟨by simp_all [cnt],two _ _ _⟩
 ·rename_i h0 h1 h2
  exact ⟨by simp_all [cnt],two _ _ _⟩
 ·rename_i h0 h1 h2
  exact ⟨by simp_all [cnt],two _ _ _⟩
theorem may_any (cu cg n k m u g l z wt:Int) (w:World):Calls Tryz.prog 257 #[Cr cu cg,St n k m u g l z,I wt] w fun e w'=>e=.returned (.bool (may cu cg m u g wt))∧Below w.heap.size w w':=by
 go_enter Tryz.func257,Tryz.ntmps257
 go_wp2_with fail
 refine (bits_any _ _ _ _ _ _ _ _ _ _).mono ?_
 rintro e w1 ⟨rfl,B1⟩
 go_wp2_with fail
 go_ret
 refine ⟨?_,Below.step (two _ _ _) B1 (Nat.le_refl _)⟩
 show Ending.returned (Value.bool _)=_
 rw [and7,andNot_zero _ (lo_lt _)]
 rfl
theorem masked_any (m:Int) (w:World):Calls Tryz.prog 270 #[I m] w fun e w'=>e=.returned (I (bits .and .i64 m 4095))∧w'=w:=by
 go_enter Tryz.func270,Tryz.ntmps270
 go_wp2_with fail
 go_ret
 exact ⟨rfl,rfl⟩
end Go.Proofs.YtlngeaacjbdmhaaGreat.Kr
namespace Go.Proofs.YtlngeaacjbdmhaaGreat.Wl
open Go.RowKit
structure Wd (lo N mb:Nat) (W:World) (t m:Nat) (E:En):Prop where
 tp:Tp lo N W t E.T
 wk:Wk 880 E.T
 ls:Mt.Ls mb W m E.rt E.md E.es
 el:Mt.Eld E.md E.es
 le:E.es.length≤1000
 wf:∀ p ∈ E.es,(kl p.top).wf=true∧(kl p.an).wf=true
def wkC (E:En) (t m:Nat) (am an:Int) (s:Nat):Array Value:=#[P0 t,P0 m,I E.cu,I E.cg,I E.rm,I E.rn,I am,I an,I (s:Int)]
def Wn (W:World) (b t m:Nat) (E:En) (am an:Int) (s:Nat):Prop:=W.heap[b]?=some (.cells (wkC E t m am an s) 238)
section
variable {lo N mb:Nat} {W W':World} {t m b:Nat} {E:En} {am an:Int} {s:Nat}
theorem Wd.below (h:Wd lo N mb W t m E) (g:Below W.heap.size W W'):Wd lo N mb W' t m E:=⟨h.tp.below g,h.wk,h.ls.below g,h.el,h.le,h.wf⟩
theorem Wn.below (h:Wn W b t m E am an s) (g:Below W.heap.size W W'):Wn W' b t m E am an s:=(g.block b (lt_of_heap h)).trans h
theorem Wn.lt (h:Wn W b t m E am an s):b < W.heap.size:=lt_of_heap h
theorem Wn.cells (h:Wn W b t m E am an s):W.cell? ⟨b,0,none⟩=some (P0 t)∧W.cell? ⟨b,1,none⟩=some (P0 m)∧W.cell? ⟨b,2,none⟩=some (I E.cu)∧W.cell? ⟨b,3,none⟩=some (I E.cg)∧W.cell? ⟨b,4,none⟩=some (I E.rm)∧W.cell? ⟨b,5,none⟩=some (I E.rn)∧W.cell? ⟨b,6,none⟩=some (I am)∧W.cell? ⟨b,7,none⟩=some (I an)∧W.cell? ⟨b,8,none⟩=some (I (s:Int))∧∀ i,W.frozen? ⟨b,i,none⟩=false:=by
 refine ⟨?_,?_,?_,?_,?_,?_,?_,?_,?_,frozen_of h⟩ <;> (rw [cell_of h];rfl)
theorem stat_shape (T:Tr) (n:Int):∃ a mo u g l z,T.stat n=.agg #[I a,I (T.kindOf n),I mo,I u,I g,I l,I z]∧∀ x,T.nd n=some x→mo=x.mode∧u=x.uid∧g=x.gid:=by
 unfold Tr.stat Tr.kindOf
 cases h:T.nd n with
 | none=>exact ⟨0,0,0,0,0,0,rfl,fun x hx=>by cases hx⟩
 | some x=>exact ⟨_,_,_,_,_,_,rfl,fun y hy=>by cases hy;exact ⟨rfl,rfl,rfl⟩⟩
theorem stat_W (h:Wd lo N mb W t m E) {n:Int} (hn:(kl n).wf=true) {v:Value} {f:Bool} (hv:E.T.stat n=v) (hf:(E.T.nd n).isSome=f) (V:World) (g:Below W.heap.size W V) :
  Calls Tryz.prog 37 #[P0 t,I n] V fun e w'=>e=.returned (.tuple #[v,.bool f])∧Hid (Below V.heap.size V w'):=by
 obtain ⟨q,p,nb,ev,h1⟩:=h.tp
 rw [← hv,← hf]
 exact stat_any (h1.below g) h.wk (by omega) hn
theorem cell_be {a:Addr} {v:Value} (h:W.cell? a=some v) (g:Below W.heap.size W W'):W'.cell? a=some v:=by
 have hx:a.block < W.heap.size:=by
  rcases Nat.lt_or_ge a.block W.heap.size with h1 | h1
  ·exact h1
  ·simp [World.cell?,Array.getElem?_eq_none h1] at h
 rw [← h]
 exact World.cell?_of_block (g.block a.block hx)
def zst:Obj:=.cells #[I 0,I 0,I 0,I 0,I 0,I 0,I 0] 33
theorem below7 {B:Nat} {u X:World} (h:Below B u X) {b:Nat} (hb:B≤b) (v0 v1 v2 v3 v4 v5 v6:Value):Below B u (((((((X.setCell ⟨b,0,none⟩ v0).setCell ⟨b,1,none⟩ v1).setCell ⟨b,2,none⟩ v2).setCell ⟨b,3,none⟩ v3).setCell ⟨b,4,none⟩ v4).setCell ⟨b,5,none⟩ v5).setCell ⟨b,6,none⟩ v6) :=
 ((((((h.setCell (p:=⟨b,0,none⟩) hb _).setCell (p:=⟨b,1,none⟩) hb _).setCell (p:=⟨b,2,none⟩) hb _).setCell (p:=⟨b,3,none⟩) hb _).setCell (p:=⟨b,4,none⟩) hb _).setCell (p:=⟨b,5,none⟩) hb _).setCell (p:=⟨b,6,none⟩) hb _
theorem set7 {X:World} {b:Nat} {t:TypeId} {a0 a1 a2 a3 a4 a5 a6:Value} (h:X.heap[b]?=some (.cells #[a0,a1,a2,a3,a4,a5,a6] t)) (v0 v1 v2 v3 v4 v5 v6:Value) :
  ∃ Y,((((((X.setCell ⟨b,0,none⟩ v0).setCell ⟨b,1,none⟩ v1).setCell ⟨b,2,none⟩ v2).setCell ⟨b,3,none⟩ v3).setCell ⟨b,4,none⟩ v4).setCell ⟨b,5,none⟩ v5).setCell ⟨b,6,none⟩ v6=Y∧Y.heap[b]?=some (.cells #[v0,v1,v2,v3,v4,v5,v6] t)∧∀ B u,Below B u X→B≤b→Below B u Y :=
 ⟨_,rfl,by rw [heap_set (heap_set (heap_set (heap_set (heap_set (heap_set (heap_set h 0 _) 1 _) 2 _) 3 _) 4 _) 5 _) 6 _];rfl,fun _ _ h1 h2=>below7 h1 h2 _ _ _ _ _ _ _⟩
theorem stat_ahead (h:Wd lo N mb W t m E) {n:Int} (hn:(kl n).wf=true) {v:Value} {f:Bool} (hv:E.T.stat n=v) (hf:(E.T.nd n).isSome=f) (V:World) (g:Below W.heap.size W V) :
  Calls Tryz.prog 37 #[P0 t,I n] (V.alloc zst).drew fun e w'=>e=.returned (.tuple #[v,.bool f])∧Hid (Below V.heap.size V w')∧w'.heap[V.heap.size]?=some zst:=by
 have g1:Below V.heap.size V (V.alloc zst).drew:=below_drew ((Below.refl _ V).alloc (Nat.le_refl _) _)
 refine (stat_W h hn hv hf (V.alloc zst).drew (g.trans (g1.mono g.size))).mono ?_
 rintro e w' ⟨rfl,h2⟩
 refine ⟨rfl,g1.trans ((unhide h2).mono (by show V.heap.size≤(V.alloc zst).heap.size;simp)),((unhide h2).block _ (by show V.heap.size < (V.alloc zst).heap.size;simp)).trans ?_⟩
 exact heap_alloc_new V zst
theorem stat_behind (h:Wd lo N mb W t m E) {n:Int} (hn:(kl n).wf=true) {v:Value} {f:Bool} (hv:E.T.stat n=v) (hf:(E.T.nd n).isSome=f) (V:World) (g:Below W.heap.size W V) :
  Calls Tryz.prog 37 #[P0 t,I n] V.drew fun e w'=>e=.returned (.tuple #[v,.bool f])∧Hid (Below V.heap.size V w'):=by
 refine (stat_W h hn hv hf V.drew (below_drew g)).mono ?_
 rintro e w' ⟨rfl,h2⟩
 exact ⟨rfl,(below_drew (Below.refl _ V)).trans (unhide h2)⟩
theorem kind_any (D:Wd lo N mb W t m E) (hw:Wn W b t m E am an s) (pm pn:Int) (hn:(kl pn).wf=true) :
  Calls Tryz.prog 236 #[P0 b,.agg #[I pm,I pn]] W fun e w'=>e=.returned (I (E.T.kindOf pn))∧Below W.heap.size W w':=by
 obtain ⟨a,mo,u,g,l,z,hst,-⟩:=stat_shape E.T pn
 obtain ⟨f,hf⟩:∃ f,(E.T.nd pn).isSome=f:=⟨_,rfl⟩
 obtain ⟨K,hK⟩:∃ K,K=E.T.kindOf pn:=⟨_,rfl⟩
 rw [← hK] at hst ⊢
 obtain ⟨c0,-⟩:=hw.cells
 obtain ⟨V,hV,g1,hB⟩:∃ V,W.alloc (.cells #[I pm,I pn] 50)=V∧V.heap[W.heap.size]?=some (.cells #[I pm,I pn] 50)∧Below W.heap.size W V:=⟨_,rfl,heap_alloc_new W _,(Below.refl _ W).alloc (Nat.le_refl _) _⟩
 have v0:=cell_be c0 hB
 have v1:V.cell? ⟨W.heap.size,1,none⟩=some (I pn):=by rw [cell_of g1];rfl
 have H1:=hide (stat_ahead D hn hst hf V hB)
 have H2:=hide (stat_behind D hn hst hf V hB)
 have HB:=hide hB
 have hl:=lt_of_heap g1
 have hbl:=hw.lt
 have n1:b≠V.heap.size:=by omega
 have n2:W.heap.size≠V.heap.size:=by omega
 have n3:V.heap.size≠b:=by omega
 have n4:V.heap.size≠W.heap.size:=by omega
 clear D hw hst hf hK hn hB g1 c0
 unfold zst at H1
 go_enter Tryz.func236,Tryz.ntmps236
 go_wp2_with fail
 go_region_held3 (fun w'=>w'.cell? ⟨b,0,none⟩=some (P0 t)∧w'.cell? ⟨W.heap.size,1,none⟩=some (I pn)) (go_keep)
  (first
   | (go_at_call 37;refine (unhide H1).mono ?_;rintro e w2 ⟨rfl,HB2,hz⟩;obtain ⟨r0,r1,r2,r3,r4,r5,r6,rf⟩:=cells7 hz;have HZ:=hide hz;clear hz;have q0:=cell_be v0 (unhide HB2);have q1:=cell_be v1 (unhide HB2))
   | (go_at_call 37;refine (unhide H2).mono ?_;rintro e w2 ⟨rfl,HB2⟩;have q0:=cell_be v0 (unhide HB2);have q1:=cell_be v1 (unhide HB2)))
 ·rename_i hHeld
  clear hHeld
  have e1:(w2.alloc (.cells #[I a,I K,I mo,I u,I g,I l,I z] 33)).cell? ⟨w2.heap.size,1,none⟩=some (I K):=by rw [cell_of (heap_alloc_new _ _)];rfl
  have HX:=hide (((unhide HB).trans ((unhide HB2).mono (Nat.le_of_lt hl))).alloc (Nat.le_trans (Nat.le_of_lt hl) (unhide HB2).size) (.cells #[I a,I K,I mo,I u,I g,I l,I z] 33))
  generalize w2.alloc (.cells #[I a,I K,I mo,I u,I g,I l,I z] 33)=X at *
  go_wp2_with fail
  go_ret
  exact ⟨rfl,unhide HX⟩
 ·rename_i hHeld
  clear hHeld
  obtain ⟨Y,hY,hYb,hYB⟩:=set7 (unhide HZ) (I a) (I K) (I mo) (I u) (I g) (I l) (I z)
  rw [hY]
  have e1:Y.cell? ⟨V.heap.size,1,none⟩=some (I K):=by rw [cell_of hYb];rfl
  have HX:=hide (hYB _ _ ((unhide HB).trans ((unhide HB2).mono (Nat.le_of_lt hl))) (Nat.le_of_lt hl))
  clear hY hYb hYB r0 r1 r2 r3 r4 r5 r6 rf
  go_wp2_with fail
  go_ret
  exact ⟨rfl,unhide HX⟩
end
attribute [local go_sem ↓] Go.wp_at_zero Go.wp_at_succ
section
variable {lo N mb:Nat} {W W':World} {t m b:Nat} {E:En} {am an:Int} {s:Nat}
theorem Wd.lo_le (h:Wd lo N mb W t m E):lo≤W.heap.size:=h.tp.lo_le
theorem kind_wf {n:Int} (hn:E.T.kindOf n=1):∃ x,E.T.nd n=some x∧x.kind=1:=by
 unfold Tr.kindOf at hn
 cases e:E.T.nd n with
 | none=>rw [e] at hn;simp at hn
 | some x=>rw [e] at hn;exact ⟨x,rfl,hn⟩
theorem refusal_any (D:Wd lo N mb W t m E) (hw:Wn W b t m E am an s) (hn:(kl an).wf=true) :
  Calls Tryz.prog 232 #[P0 b] W fun e w'=>e=.returned (I (E.refusal an))∧Below W.heap.size W w':=by
 obtain ⟨a,mo,u,g,l,z,hst,hxx⟩:=stat_shape E.T an
 obtain ⟨f,hf⟩:∃ f,(E.T.nd an).isSome=f:=⟨_,rfl⟩
 obtain ⟨K,hK⟩:∃ K,K=E.T.kindOf an:=⟨_,rfl⟩
 rw [← hK] at hst
 obtain ⟨R,hR⟩:∃ R,R=E.refusal an:=⟨_,rfl⟩
 rw [← hR]
 have HR:=hide hR
 have HX:=hide hxx
 have HK:=hide hK
 obtain ⟨v0,-,w2c,w3c,-,-,-,v7,-,-⟩:=hw.cells
 have H1:=hide (stat_ahead D hn hst hf W (Below.refl _ W))
 have H2:=hide (stat_behind D hn hst hf W (Below.refl _ W))
 have hbl:=hw.lt
 have n1:b≠W.heap.size:=by omega
 have n3:W.heap.size≠b:=by omega
 clear D hw hst hf hK hn hxx hR
 unfold zst at H1
 go_enter Tryz.func232,Tryz.ntmps232
 go_wp2_with fail
 go_region_held3 (fun w'=>w'.cell? ⟨b,0,none⟩=some (P0 t)∧w'.cell? ⟨b,7,none⟩=some (I an)) (go_keep)
  (first
   | (go_at_call 37;refine (unhide H1).mono ?_;rintro e w2 ⟨rfl,HB2,hz⟩;obtain ⟨r0,r1,r2,r3,r4,r5,r6,rf⟩:=cells7 hz;have HZ:=hide hz;clear hz;have q0:=cell_be v0 (unhide HB2);have q1:=cell_be v7 (unhide HB2))
   | (go_at_call 37;refine (unhide H2).mono ?_;rintro e w2 ⟨rfl,HB2⟩;have q0:=cell_be v0 (unhide HB2);have q1:=cell_be v7 (unhide HB2)))
 ·rename_i hHeld
  clear hHeld
  obtain ⟨Y,hY,hYb,hYB⟩:∃ Y,w2.alloc (.cells #[I a,I K,I mo,I u,I g,I l,I z] 33)=Y∧Y.heap[w2.heap.size]?=some (.cells #[I a,I K,I mo,I u,I g,I l,I z] 33)∧Below W.heap.size W Y:=⟨_,rfl,heap_alloc_new _ _,(unhide HB2).alloc (unhide HB2).size _⟩
  rw [hY]
  obtain ⟨e0,e1,e2,e3,e4,e5,e6,-⟩:=cells7 hYb
  have d2:=cell_be w2c hYB
  have d3:=cell_be w3c hYB
  have HY:=hide hYB
  clear hY hYb hYB q0 q1 v0 v7 H1 H2 w2c w3c
  generalize w2.heap.size=y at *
  clear HB2
  by_cases hk:K=1
  ·have er:R=if (Kr.may E.cu E.cg mo u g 1)=true then 0 else 34:=by
    obtain ⟨x,hx,hx1⟩:=kind_wf ((unhide HK).symm.trans hk)
    obtain ⟨rfl,rfl,rfl⟩:=unhide HX x hx
    rw [unhide HR]
    unfold En.refusal En.may
    rw [← unhide HK,if_pos hk,hx]
   replace er:=hide er
   have hk1:(K == 1)=true:=by simpa using hk
   obtain ⟨M,hM⟩:∃ M,Kr.may E.cu E.cg mo u g 1=M:=⟨_,rfl⟩
   have HM:=hide (fun w=>Kr.may_any E.cu E.cg a K mo u g l z 1 w)
   rw [hM] at HM er
   clear hM
   rw [hk] at HM e1
   clear hk hk1
   go_wp2_with fail
   go_region_held3 (fun w'=>w'.cell? ⟨b,2,none⟩=some (I E.cu)∧w'.cell? ⟨b,3,none⟩=some (I E.cg)∧w'.cell? ⟨y,0,none⟩=some (I a)∧w'.cell? ⟨y,1,none⟩=some (I 1)∧w'.cell? ⟨y,2,none⟩=some (I mo)∧w'.cell? ⟨y,3,none⟩=some (I u)∧w'.cell? ⟨y,4,none⟩=some (I g)∧w'.cell? ⟨y,5,none⟩=some (I l)∧w'.cell? ⟨y,6,none⟩=some (I z)) (go_keep)
    (first
     | (go_at_call 257;refine (unhide HM _).mono ?_;rintro e w3 ⟨rfl,hB3⟩;have HB3:=hide hB3;clear hB3;have p2:=cell_be (W:=Y.drew) d2 (unhide HB3);have p3:=cell_be (W:=Y.drew) d3 (unhide HB3);have s0:=cell_be (W:=Y.drew) e0 (unhide HB3);have s1:=cell_be (W:=Y.drew) e1 (unhide HB3);have s2:=cell_be (W:=Y.drew) e2 (unhide HB3);have s3:=cell_be (W:=Y.drew) e3 (unhide HB3);have s4:=cell_be (W:=Y.drew) e4 (unhide HB3);have s5:=cell_be (W:=Y.drew) e5 (unhide HB3);have s6:=cell_be (W:=Y.drew) e6 (unhide HB3)))
   clear d2 d3 e0 e1 e2 e3 e4 e5 e6 p2 p3 s0 s1 s2 s3 s4 s5 s6
   have HZZ:=hide ((unhide HY).trans ((below_drew (Below.refl Y.heap.size Y)).trans (unhide HB3) |>.mono (unhide HY).size))
   clear HB3 HY
   cases M with
   | true =>
    go_wp2_with fail
    go_ret
    exact ⟨by rw [unhide er];rfl,unhide HZZ⟩
   | false =>
    go_wp2_with fail
    go_ret
    exact ⟨by rw [unhide er];rfl,unhide HZZ⟩
  ·have er:R=37:=by
    rw [unhide HR]
    unfold En.refusal
    rw [← unhide HK,if_neg hk]
   replace er:=hide er
   go_wp2_with fail
   go_ret
   exact ⟨by rw [unhide er];rfl,unhide HY⟩
 ·rename_i hHeld
  clear hHeld
  obtain ⟨Y,hY,hYb,hYB0⟩:=set7 (unhide HZ) (I a) (I K) (I mo) (I u) (I g) (I l) (I z)
  rw [hY]
  have hYB:=hYB0 _ _ (unhide HB2) (Nat.le_refl _)
  obtain ⟨e0,e1,e2,e3,e4,e5,e6,-⟩:=cells7 hYb
  have d2:=cell_be w2c hYB
  have d3:=cell_be w3c hYB
  have HY:=hide hYB
  clear hY hYb hYB hYB0 q0 q1 v0 v7 H1 H2 w2c w3c r0 r1 r2 r3 r4 r5 r6 rf HZ HB2
  obtain ⟨y,hy⟩:∃ y,y=W.heap.size:=⟨_,rfl⟩
  rw [← hy] at e0 e1 e2 e3 e4 e5 e6 n1 n3 ⊢
  replace hy:=hide hy
  by_cases hk:K=1
  ·have er:R=if (Kr.may E.cu E.cg mo u g 1)=true then 0 else 34:=by
    obtain ⟨x,hx,hx1⟩:=kind_wf ((unhide HK).symm.trans hk)
    obtain ⟨rfl,rfl,rfl⟩:=unhide HX x hx
    rw [unhide HR]
    unfold En.refusal En.may
    rw [← unhide HK,if_pos hk,hx]
   replace er:=hide er
   have hk1:(K == 1)=true:=by simpa using hk
   obtain ⟨M,hM⟩:∃ M,Kr.may E.cu E.cg mo u g 1=M:=⟨_,rfl⟩
   have HM:=hide (fun w=>Kr.may_any E.cu E.cg a K mo u g l z 1 w)
   rw [hM] at HM er
   clear hM
   rw [hk] at HM e1
   clear hk hk1
   go_wp2_with fail
   go_region_held3 (fun w'=>w'.cell? ⟨b,2,none⟩=some (I E.cu)∧w'.cell? ⟨b,3,none⟩=some (I E.cg)∧w'.cell? ⟨y,0,none⟩=some (I a)∧w'.cell? ⟨y,1,none⟩=some (I 1)∧w'.cell? ⟨y,2,none⟩=some (I mo)∧w'.cell? ⟨y,3,none⟩=some (I u)∧w'.cell? ⟨y,4,none⟩=some (I g)∧w'.cell? ⟨y,5,none⟩=some (I l)∧w'.cell? ⟨y,6,none⟩=some (I z)) (go_keep)
    (first
     | (go_at_call 257;refine (unhide HM _).mono ?_;rintro e w3 ⟨rfl,hB3⟩;have HB3:=hide hB3;clear hB3;have p2:=cell_be (W:=Y.drew) d2 (unhide HB3);have p3:=cell_be (W:=Y.drew) d3 (unhide HB3);have s0:=cell_be (W:=Y.drew) e0 (unhide HB3);have s1:=cell_be (W:=Y.drew) e1 (unhide HB3);have s2:=cell_be (W:=Y.drew) e2 (unhide HB3);have s3:=cell_be (W:=Y.drew) e3 (unhide HB3);have s4:=cell_be (W:=Y.drew) e4 (unhide HB3);have s5:=cell_be (W:=Y.drew) e5 (unhide HB3);have s6:=cell_be (W:=Y.drew) e6 (unhide HB3)))
   clear d2 d3 e0 e1 e2 e3 e4 e5 e6 p2 p3 s0 s1 s2 s3 s4 s5 s6
   have HZZ:=hide ((unhide HY).trans ((below_drew (Below.refl Y.heap.size Y)).trans (unhide HB3) |>.mono (unhide HY).size))
   clear HB3 HY
   cases M with
   | true =>
    go_wp2_with fail
    go_ret
    exact ⟨by rw [unhide er];rfl,unhide HZZ⟩
   | false =>
    go_wp2_with fail
    go_ret
    exact ⟨by rw [unhide er];rfl,unhide HZZ⟩
  ·have er:R=37:=by
    rw [unhide HR]
    unfold En.refusal
    rw [← unhide HK,if_neg hk]
   replace er:=hide er
   go_wp2_with fail
   go_ret
   exact ⟨by rw [unhide er];rfl,unhide HY⟩
end
attribute [local go_sem ↓] Go.wp_at_zero Go.wp_at_succ
section
variable {lo N mb:Nat} {W W':World} {t m b:Nat} {E:En} {am an:Int} {s:Nat}
theorem down_W (D:Wd lo N mb W t m E) (x y:Int) {p q:Int} (hp:(E.down x y).1=p) (hq:(E.down x y).2=q) (V:World) (g:Below W.heap.size W V) :
  Calls Tryz.prog 38 #[P0 m,.agg #[I x,I y]] V fun e w'=>e=.returned (.agg #[I p,I q])∧Hid (Below V.heap.size V w'):=by
 rw [← hp,← hq]
 exact Mt.down_any mb m E.rt E.md x y E.es V (D.ls.below g) D.le D.el
theorem up_W (D:Wd lo N mb W t m E) (x y:Int) {p q:Int} {f:Bool} (hp:Mt.upM E.es x y=p) (hq:Mt.upN E.es x y=q) (hf:Mt.upIs E.es x y=f) (V:World) (g:Below W.heap.size W V) :
  Calls Tryz.prog 272 #[P0 m,.agg #[I x,I y]] V fun e w'=>e=.returned (.tuple #[.agg #[I p,I q],.bool f])∧Hid (Below V.heap.size V w'):=by
 rw [← hp,← hq,← hf]
 exact Mt.up_any mb m E.rt E.md x y E.es V (D.ls.below g) D.le
theorem find_W (D:Wd lo N mb W t m E) {n:Int} (hn:(kl n).wf=true) (p:Bytes) {x:Int} {f:Bool} (hx:(E.T.findN n (bs p)).getD 0=x) (hf:(E.T.findN n (bs p)).isSome=f) (V:World) (g:Below W.heap.size W V) :
  Calls Tryz.prog 55 #[P0 t,I n,.string (bs p)] V fun e w'=>e=.returned (.tuple #[I x,.bool f])∧Hid (Below V.heap.size V w'):=by
 obtain ⟨q,pp,nb,ev,h1⟩:=D.tp
 rw [← hx,← hf]
 exact tfind_any (h1.below g) D.wk (by omega) hn (bs p)
theorem text_W (D:Wd lo N mb W t m E) {n:Int} (hn:(kl n).wf=true) {l:Bytes} (hl:E.text n=l) (V:World) (g:Below W.heap.size W V) :
  Calls Tryz.prog 58 #[P0 t,I n] V fun e w'=>e=.returned (.string (bs l))∧Hid (Below V.heap.size V w'):=by
 obtain ⟨q,pp,nb,ev,h1⟩:=D.tp
 rw [← hl]
 exact text_any (h1.below g) D.wk hn
theorem tup_W (D:Wd lo N mb W t m E) {n:Int} (hn:(kl n).wf=true) {y:Int} (hy:E.T.up n=y) (V:World) (g:Below W.heap.size W V) :
  Calls Tryz.prog 89 #[P0 t,I n] V fun e w'=>e=.returned (I y)∧Hid (Below V.heap.size V w'):=by
 obtain ⟨q,pp,nb,ev,h1⟩:=D.tp
 rw [← hy]
 refine (up_any (h1.below g) hn).mono ?_
 rintro e w' ⟨rfl,k,rfl⟩
 exact ⟨rfl,below_n _ k⟩
theorem ans2 {V w3:World} {R:Nat} {a0 a1:Value} {ty:TypeId} (hR:V.heap[R]?=some (.cells #[a0,a1] ty)) (hB:Below V.heap.size V w3) (v0 v1:Value) :
  ∃ X1 X2:World,(w3.setCell ⟨R,0,none⟩ v0=X1∧X1.setCell ⟨R,1,none⟩ v1=X2)∧(w3.cell? ⟨R,0,none⟩=some a0∧X1.cell? ⟨R,1,none⟩=some a1)∧(w3.frozen? ⟨R,0,none⟩=false∧X1.frozen? ⟨R,1,none⟩=false) ∧
   X2.heap[R]?=some (.cells #[v0,v1] ty)∧(∀ k,k≠R→k < V.heap.size→X2.heap[k]?=V.heap[k]?)∧(∀ B u,Below B u w3→B≤R→Below B u X2)∧X2.heap.size=w3.heap.size:=by
 obtain ⟨X1,X2,h1,h2,h3,h4,h5,h6⟩:=Mt.store2 ((hB.block R (lt_of_heap hR)).trans hR) v0 v1
 refine ⟨X1,X2,h1,h2,h3,h4,fun k hk hl=>(h5.blk k (Nat.lt_of_lt_of_le hl hB.size) (by simpa using hk)).trans (hB.block k hl),fun B u hu hb=>hu.trans (h5.base ?_ (by simpa using hb)),h6⟩
 have:=lt_of_heap hR
 have:=hB.size
 omega
theorem cell_kp {V X:World} {k i:Nat} {v:Value} (h:V.cell? ⟨k,i,none⟩=some v) (g:X.heap[k]?=V.heap[k]?):X.cell? ⟨k,i,none⟩=some v:=by
 rw [← h]
 exact World.cell?_of_block g
theorem find_any (D:Wd lo N mb W t m E) (hw:Wn W b t m E am an s) (hn:(kl an).wf=true) (p:Bytes) (x y:Int) (f:Bool) (hx:((E.find p am an).getD (0,0)).1=x) (hy:((E.find p am an).getD (0,0)).2=y) (hf:(E.find p am an).isSome=f) :
  Calls Tryz.prog 234 #[P0 b,.string (bs p)] W fun e w'=>e=.returned (.tuple #[.agg #[I x,I y],.bool f])∧Below W.heap.size W w':=by
 obtain ⟨k,hk⟩:∃ k,(E.T.findN an (bs p)).getD 0=k:=⟨_,rfl⟩
 have hf':(E.T.findN an (bs p)).isSome=f:=by rw [← hf];simp [En.find]
 obtain ⟨V,hV,g1,hB⟩:∃ V,W.alloc (.cells #[I 0,I 0] 50)=V∧V.heap[W.heap.size]?=some (.cells #[I 0,I 0] 50)∧Below W.heap.size W V:=⟨_,rfl,heap_alloc_new W _,(Below.refl _ W).alloc (Nat.le_refl _) _⟩
 have hbl:=hw.lt
 have hVl:=lt_of_heap g1
 obtain ⟨v0,-,-,-,-,-,-,v7,-,-⟩:=(hw.below hB).cells
 have H1:=hide (find_W D hn p hk hf' V.drew (below_drew hB))
 have HD:=hide D
 have HB:=hide hB
 have HG:=hide g1
 have Hw:=hide hw
 have n1:b≠W.heap.size:=by omega
 have n3:W.heap.size≠b:=by omega
 cases f with
 | false =>
  have hfn:E.find p am an=none:=by simpa using hf
  rw [hfn] at hx hy
  obtain rfl:(0:Int)=x:=hx
  obtain rfl:(0:Int)=y:=hy
  clear hfn hf hf' hk D hw hn hB g1 HD
  go_enter Tryz.func234,Tryz.ntmps234
  go_wp2_with fail
  go_region_held3 (fun w'=>w'.cell? ⟨b,0,none⟩=some (P0 t)∧w'.cell? ⟨b,7,none⟩=some (I an)) (go_keep)
   (first
    | (go_at_call 55;refine (unhide H1).mono ?_;rintro e w3 ⟨rfl,HB3⟩;have q0:=cell_be (W:=V.drew) v0 (unhide HB3);have q7:=cell_be (W:=V.drew) v7 (unhide HB3)))
  obtain ⟨X1,X2,⟨x1,x2⟩,⟨y0,y1⟩,⟨f0,f1⟩,hX,-,hXB,-⟩:=ans2 (unhide HG) ((below_drew (Below.refl _ V)).trans (unhide HB3)) (I 0) (I 0)
  have HX:=hide (hXB _ _ ((unhide HB).trans (((below_drew (Below.refl _ V)).trans (unhide HB3)).mono (Nat.le_of_lt hVl))) (Nat.le_refl _))
  have z0:X2.cell? ⟨W.heap.size,0,none⟩=some (I 0):=by rw [cell_of hX];rfl
  have z1:X2.cell? ⟨W.heap.size,1,none⟩=some (I 0):=by rw [cell_of hX];rfl
  clear hX hXB H1 v0 v7 q0 q7 HB3
  go_wp2_with fail
  refine bodyPost_ret (v:=.tuple #[.agg #[I 0,I 0],.bool false]) (by simp [results,Tryz.results234,go_sem,z0,z1]) rfl ?_
  exact ⟨rfl,unhide HX⟩
 | true =>
  obtain ⟨k',hk'⟩:=Option.isSome_iff_exists.1 hf'
  have hfn:E.find p am an=some (E.down am k'):=by rw [En.find,hk'];rfl
  rw [hk'] at hk
  obtain rfl:k'=k:=hk
  rw [hfn] at hx hy
  have hx':(E.down am k').1=x:=hx
  have hy':(E.down am k').2=y:=hy
  clear hfn hf hf' hk' D hw hn hB g1 hx hy
  go_enter Tryz.func234,Tryz.ntmps234
  go_wp2_with fail
  go_region_held3 (fun w'=>w'.cell? ⟨b,0,none⟩=some (P0 t)∧w'.cell? ⟨b,7,none⟩=some (I an)) (go_keep)
   (first
    | (go_at_call 55;refine (unhide H1).mono ?_;rintro e w3 ⟨rfl,HB3⟩;have q0:=cell_be (W:=V.drew) v0 (unhide HB3);have q7:=cell_be (W:=V.drew) v7 (unhide HB3)))
  have hBV:Below V.heap.size V w3.drew:=below_drew ((below_drew (Below.refl _ V)).trans (unhide HB3))
  have hBW:Below W.heap.size W w3.drew:=(unhide HB).trans (hBV.mono (Nat.le_of_lt hVl))
  obtain ⟨-,p1,-,-,-,-,p6,-,-,-⟩:=((unhide Hw).below hBW).cells
  have p1':w3.cell? ⟨b,1,none⟩=some (P0 m):=p1
  have p6':w3.cell? ⟨b,6,none⟩=some (I am):=p6
  have H3:=hide (down_W (unhide HD) am k' hx' hy' w3.drew hBW)
  have HG3:Hid (w3.drew.heap[W.heap.size]?=some (.cells #[I 0,I 0] 50)):=(hBV.block _ hVl).trans (unhide HG)
  have HBW:=hide hBW
  have hls:b < w3.drew.heap.size:=Nat.lt_of_lt_of_le hbl hBW.size
  rename_i hHeld
  clear H1 v0 v7 q0 q7 HB3 hBV hBW HG hHeld hx' hy' p1 p6
  go_wp2_with fail
  go_region_held3 (fun w'=>w'.cell? ⟨b,1,none⟩=some (P0 m)∧w'.cell? ⟨b,6,none⟩=some (I am)) (go_keep)
   (first
    | (go_at_call 38;refine (unhide H3).mono ?_;rintro e w4 ⟨rfl,HB4⟩;have q1:=cell_be (W:=w3.drew) p1' (unhide HB4);have q6:=cell_be (W:=w3.drew) p6' (unhide HB4);obtain ⟨X1,X2,⟨x1,x2⟩,⟨y0,y1⟩,⟨f0,f1⟩,hX,hXk,hXB,hXs⟩:=ans2 (unhide HG3) (unhide HB4) (I x) (I y);have s1:X2.cell? ⟨b,1,none⟩=some (P0 m):=cell_kp (V:=w3.drew) p1' (hXk b n1 hls);have s6:X2.cell? ⟨b,6,none⟩=some (I am):=cell_kp (V:=w3.drew) p6' (hXk b n1 hls);have HXf:=hide hX;have HXB:=hide hXB;clear hX hXk hXB hXs))
  have hX:=unhide HXf
  have HX:=hide (unhide HXB _ _ ((unhide HBW).trans ((unhide HB4).mono (unhide HBW).size)) (Nat.le_refl _))
  have z0:X2.cell? ⟨W.heap.size,0,none⟩=some (I x):=by rw [cell_of hX];rfl
  have z1:X2.cell? ⟨W.heap.size,1,none⟩=some (I y):=by rw [cell_of hX];rfl
  clear hX HXf HXB H3
  go_wp2_with fail
  refine bodyPost_ret (v:=.tuple #[.agg #[I x,I y],.bool true]) (by simp [results,Tryz.results234,go_sem,z0,z1]) rfl ?_
  exact ⟨rfl,unhide HX⟩
end
end Go.Proofs.YtlngeaacjbdmhaaGreat.Wl
