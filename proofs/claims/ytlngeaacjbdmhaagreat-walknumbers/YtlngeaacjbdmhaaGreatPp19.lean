/-
 The contract of walk.
-/
import Derived.Test.YtlngeaacjbdmhaaGreatPp18
import Derived.Test.YtlngeaacjbdmhaaGreatPp02
set_option maxRecDepth 100000
set_option maxHeartbeats 1000000
namespace Go.Proofs.YtlngeaacjbdmhaaGreat.Wl
open Go.RowKit
attribute [local go_sem ↓] Go.wp_at_zero Go.wp_at_succ
theorem set9 {X:World} {b:Nat} {t:TypeId} {a0 a1 a2 a3 a4 a5 a6 a7 a8:Value} (h:X.heap[b]?=some (.cells #[a0,a1,a2,a3,a4,a5,a6,a7,a8] t)) (v0 v1 v2 v3 v4 v5 v6 v7 v8:Value) :
  ∃ Y,((((((((X.setCell ⟨b,0,none⟩ v0).setCell ⟨b,1,none⟩ v1).setCell ⟨b,2,none⟩ v2).setCell ⟨b,3,none⟩ v3).setCell ⟨b,4,none⟩ v4).setCell ⟨b,5,none⟩ v5).setCell ⟨b,6,none⟩ v6).setCell ⟨b,7,none⟩ v7).setCell ⟨b,8,none⟩ v8=Y∧Y.heap[b]?=some (.cells #[v0,v1,v2,v3,v4,v5,v6,v7,v8] t)∧(∀ B u,Below B u X→B≤b→Below B u Y)∧(∀ k,k≠b→Y.heap[k]?=X.heap[k]?):=by
 refine ⟨_,rfl,by rw [heap_set (heap_set (heap_set (heap_set (heap_set (heap_set (heap_set (heap_set (heap_set h 0 _) 1 _) 2 _) 3 _) 4 _) 5 _) 6 _) 7 _) 8 _];simp only [List.setIfInBounds_toArray,List.set_cons_succ,List.set_cons_zero],fun B u hu hb=>((((((((hu.setCell (p:=⟨b,0,none⟩) hb _).setCell (p:=⟨b,1,none⟩) hb _).setCell (p:=⟨b,2,none⟩) hb _).setCell (p:=⟨b,3,none⟩) hb _).setCell (p:=⟨b,4,none⟩) hb _).setCell (p:=⟨b,5,none⟩) hb _).setCell (p:=⟨b,6,none⟩) hb _).setCell (p:=⟨b,7,none⟩) hb _).setCell (p:=⟨b,8,none⟩) hb _,fun k hk=>?_⟩
 rw [Below.heap_setCell _ _ _ _ hk,Below.heap_setCell _ _ _ _ hk,Below.heap_setCell _ _ _ _ hk,Below.heap_setCell _ _ _ _ hk,Below.heap_setCell _ _ _ _ hk,Below.heap_setCell _ _ _ _ hk,Below.heap_setCell _ _ _ _ hk,Below.heap_setCell _ _ _ _ hk,Below.heap_setCell _ _ _ _ hk]
theorem cells9 {W:World} {b:Nat} {t:TypeId} {a0 a1 a2 a3 a4 a5 a6 a7 a8:Value} (h:W.heap[b]?=some (.cells #[a0,a1,a2,a3,a4,a5,a6,a7,a8] t)):W.cell? ⟨b,0,none⟩=some a0∧W.cell? ⟨b,1,none⟩=some a1∧W.cell? ⟨b,2,none⟩=some a2∧W.cell? ⟨b,3,none⟩=some a3∧W.cell? ⟨b,4,none⟩=some a4∧W.cell? ⟨b,5,none⟩=some a5∧W.cell? ⟨b,6,none⟩=some a6∧W.cell? ⟨b,7,none⟩=some a7∧W.cell? ⟨b,8,none⟩=some a8∧∀ i,W.frozen? ⟨b,i,none⟩=false:=by
 refine ⟨?_,?_,?_,?_,?_,?_,?_,?_,?_,frozen_of h⟩ <;> rw [cell_of h] <;> rfl
theorem four_new (W:World) (o1 o2 o3 o4:Obj):∃ V,(((W.alloc o1).alloc o2).alloc o3).alloc o4=V∧V.heap[W.heap.size]?=some o1∧V.heap[W.heap.size + 1]?=some o2∧V.heap[W.heap.size + 1 + 1]?=some o3∧V.heap[W.heap.size + 1 + 1 + 1]?=some o4∧Below W.heap.size W V∧V.heap.size=W.heap.size + 4:=by
 obtain ⟨V1,h1,g1,g2,hB1,hs1⟩:=two_new W o1 o2
 obtain ⟨V2,h2,g3,g4,hB2,hs2⟩:=two_new V1 o3 o4
 refine ⟨V2,by rw [h1,h2],(hB2.block _ (by omega)).trans g1,(hB2.block _ (by omega)).trans g2,by rw [show W.heap.size + 1 + 1=V1.heap.size by omega];exact g3,by rw [show W.heap.size + 1 + 1 + 1=V1.heap.size + 1 by omega];exact g4,hB1.trans (hB2.mono (by omega)),by omega⟩
section
variable {lo N mb:Nat} {W:World} {t m b:Nat} {E:En} {s:Nat}
theorem fin4 {V w3 Y:World} {h:Nat} (hs:V.heap.size=h + 4) (hB:Below h W V) (h3:Below V.heap.size V w3) (hY:∀ B u,Below B u w3→B≤h + 1 + 1 + 1→Below B u Y):Below h W Y:=hY _ _ (hB.trans (h3.mono (by omega))) (by omega)
theorem walk_no (D:Wd lo N mb W t m E) (fm fn:Int) (hr:(kl E.rn).wf=true) (hf:(kl fn).wf=true) (path:Bytes) (hp:(E.place E.rm E.rn && E.place fm fn)=false) :
  Calls Tryz.prog 101 #[P0 t,P0 m,.agg #[I E.rm,I E.rn],.agg #[I fm,I fn],.agg #[I E.cu,I E.cg],.string (bs path),.bool E.follow] W fun e w'=>e=.returned (.tuple #[Fd.none.v,I 0,I 1])∧Below W.heap.size W w':=by
 obtain ⟨V,hV,g1,g2,g3,g4,hB,hs⟩:=four_new W (.cells #[I E.rm,I E.rn] 50) (.cells #[I fm,I fn] 50) (.cells #[I E.cu,I E.cg] 57) zfd
 unfold zfd at hV g4
 obtain ⟨a0,a1⟩:=Mt.cells2 g1
 obtain ⟨b0,b1⟩:=Mt.cells2 g2
 obtain ⟨r1,hr1⟩:∃ r1,E.place E.rm E.rn=r1:=⟨_,rfl⟩
 obtain ⟨r2,hr2⟩:∃ r2,E.place fm fn=r2:=⟨_,rfl⟩
 rw [hr1,hr2] at hp
 have H1:=hide (place_any (D.below hB) E.rm E.rn hr r1 hr1)
 have H2:=hide (fun (V':World) (g':Below V.heap.size V V')=>place_any ((D.below hB).below g') fm fn hf r2 hr2)
 have HG:=hide (⟨g4,hB,hs⟩:_∧_∧_)
 clear D g1 g2 g3 g4 hB hs hr1 hr2 hr hf
 show Calls _ _ _ _ fun e w'=>e=.returned (.tuple #[.agg #[I 0,I 0,.string (bs []),I 0,I 0,.bool false,.bool false],I 0,I 1])∧_
 cases r1 with
 | false =>
  go_enter Tryz.func101,Tryz.ntmps101
  go_wp2_with fail
  refine (unhide H1).mono ?_
  rintro e w3 ⟨rfl,hB3⟩
  obtain ⟨g4,hB,hs⟩:=unhide HG
  have g5:=(hB3.block _ (by omega)).trans g4
  obtain ⟨r0,r1,r2,r3,r4,r5,r6,rf⟩:=cells7 g5
  obtain ⟨Y,hY,hYb,hYB⟩:=set7 g5 (I 0) (I 0) (.string ⟨#[]⟩) (I 0) (I 0) (.bool false) (.bool false)
  obtain ⟨z0,z1,z2,z3,z4,z5,z6,-⟩:=cells7 hYb
  have HY:=hide hY
  have HYB:=hide (fin4 hs hB hB3 hYB)
  clear g4 hB hs g5 hY hYb hYB hB3 H1 H2 HG a0 a1 b0 b1
  go_wp2_with fail
  rw [unhide HY]
  refine bodyPost_ret (v:=.tuple #[.agg #[I 0,I 0,.string (bs []),I 0,I 0,.bool false,.bool false],I 0,I 1]) (by simp [results,Tryz.results101,go_sem,z0,z1,z2,z3,z4,z5,z6]) rfl ?_
  exact ⟨rfl,unhide HYB⟩
 | true =>
  obtain rfl:r2=false:=by simpa using hp
  go_enter Tryz.func101,Tryz.ntmps101
  go_wp2_with fail
  refine (unhide H1).mono ?_
  rintro e w2 ⟨rfl,hB2⟩
  have q0:=cell_be b0 hB2
  have q1:=cell_be b1 hB2
  have H3:=hide (unhide H2 w2 hB2)
  have HB2:=hide hB2
  clear H1 H2 hB2 a0 a1 b0 b1
  go_wp2_with fail
  refine (unhide H3).mono ?_
  rintro e w3 ⟨rfl,hB3'⟩
  obtain ⟨g4,hB,hs⟩:=unhide HG
  have hB3:=(unhide HB2).trans (hB3'.mono (unhide HB2).size)
  have g5:=(hB3.block _ (by omega)).trans g4
  obtain ⟨r0,r1,r2,r3,r4,r5,r6,rf⟩:=cells7 g5
  obtain ⟨Y,hY,hYb,hYB⟩:=set7 g5 (I 0) (I 0) (.string ⟨#[]⟩) (I 0) (I 0) (.bool false) (.bool false)
  obtain ⟨z0,z1,z2,z3,z4,z5,z6,-⟩:=cells7 hYb
  have HY:=hide hY
  have HYB:=hide (fin4 hs hB hB3 hYB)
  clear g4 hB hs g5 hY hYb hYB hB3 hB3' H3 HB2 HG q0 q1
  go_wp2_with fail
  rw [unhide HY]
  refine bodyPost_ret (v:=.tuple #[.agg #[I 0,I 0,.string (bs []),I 0,I 0,.bool false,.bool false],I 0,I 1]) (by simp [results,Tryz.results101,go_sem,z0,z1,z2,z3,z4,z5,z6]) rfl ?_
  exact ⟨rfl,unhide HYB⟩
theorem walk_bad (D:Wd lo N mb W t m E) (fm fn:Int) (hr:(kl E.rn).wf=true) (hf:(kl fn).wf=true) (path:Bytes) (hp:(E.place E.rm E.rn && E.place fm fn)=true) (x:Int) (hx:Nm.err path=x) (hx0:¬ x=0) :
  Calls Tryz.prog 101 #[P0 t,P0 m,.agg #[I E.rm,I E.rn],.agg #[I fm,I fn],.agg #[I E.cu,I E.cg],.string (bs path),.bool E.follow] W fun e w'=>e=.returned (.tuple #[Fd.none.v,I 0,I x])∧Below W.heap.size W w':=by
 obtain ⟨V,hV,g1,g2,g3,g4,hB,hs⟩:=four_new W (.cells #[I E.rm,I E.rn] 50) (.cells #[I fm,I fn] 50) (.cells #[I E.cu,I E.cg] 57) zfd
 unfold zfd at hV g4
 obtain ⟨a0,a1⟩:=Mt.cells2 g1
 obtain ⟨b0,b1⟩:=Mt.cells2 g2
 simp only [Bool.and_eq_true] at hp
 have H1:=hide (place_any (D.below hB) E.rm E.rn hr true hp.1)
 have H2:=hide (fun (V':World) (g':Below V.heap.size V V')=>place_any ((D.below hB).below g') fm fn hf true hp.2)
 have HRd:=hide (Nm.read_any path)
 rw [hx] at HRd
 generalize Nm.rt path=ro at *
 generalize Nm.sl path=st at *
 generalize Nm.ps path=ps at *
 have HG:=hide (⟨g4,hB,hs⟩:_∧_∧_)
 have hx1:(x != 0)=true:=by simpa using hx0
 clear D g1 g2 g3 g4 hB hs hr hf hp hx
 show Calls _ _ _ _ fun e w'=>e=.returned (.tuple #[.agg #[I 0,I 0,.string (bs []),I 0,I 0,.bool false,.bool false],I 0,I x])∧_
 go_enter Tryz.func101,Tryz.ntmps101
 go_wp2_with fail
 refine (unhide H1).mono ?_
 rintro e w2 ⟨rfl,hB2⟩
 have q0:=cell_be b0 hB2
 have q1:=cell_be b1 hB2
 have H3:=hide (unhide H2 w2 hB2)
 have HB2:=hide hB2
 clear H1 H2 hB2 a0 a1 b0 b1
 go_wp2_with fail
 refine (unhide H3).mono ?_
 rintro e w3 ⟨rfl,hB3'⟩
 have HB3:=hide ((unhide HB2).trans (hB3'.mono (unhide HB2).size))
 clear hB3' HB2 H3 q0 q1
 go_wp2_with fail
 refine (unhide HRd w3).mono ?_
 rintro e w4 ⟨v,rfl,own,hB4⟩
 obtain ⟨a,vc,rfl⟩:=Nm.own_form own
 obtain ⟨Z,hZ,hBZ⟩:∃ Z,w4.alloc (.cells #[.bool ro,.bool st,.slice a ps.length vc] 234)=Z∧Below w4.heap.size w4 Z:=⟨_,rfl,(Below.refl _ _).alloc (Nat.le_refl _) _⟩
 obtain ⟨g4,hB,hs⟩:=unhide HG
 have hB5:Below V.heap.size V Z:=(unhide HB3).trans ((hB4.mono (unhide HB3).size).trans (hBZ.mono (Nat.le_trans (unhide HB3).size hB4.size)))
 have g5:=(hB5.block _ (by omega)).trans g4
 obtain ⟨r0,r1,r2,r3,r4,r5,r6,rf⟩:=cells7 g5
 obtain ⟨Y,hY,hYb,hYB⟩:=set7 g5 (I 0) (I 0) (.string ⟨#[]⟩) (I 0) (I 0) (.bool false) (.bool false)
 obtain ⟨z0,z1,z2,z3,z4,z5,z6,-⟩:=cells7 hYb
 have HY:=hide hY
 have HYB:=hide (fin4 hs hB hB5 hYB)
 clear g4 hB hs g5 hY hYb hYB hB4 hBZ hB5 HB3 HG HRd own
 go_wp2_with fail
 rw [unhide HY]
 refine bodyPost_ret (v:=.tuple #[.agg #[I 0,I 0,.string (bs []),I 0,I 0,.bool false,.bool false],I 0,I x]) (by simp [results,Tryz.results101,go_sem,z0,z1,z2,z3,z4,z5,z6]) rfl ?_
 exact ⟨rfl,unhide HYB⟩
end
attribute [local go_sem ↓] Go.wp_at_zero Go.wp_at_succ
section
variable {lo N mb:Nat} {W:World} {t m b:Nat} {E:En} {s:Nat}
theorem walk_yes (D:Wd lo N mb W t m E) (fm fn:Int) (hr:(kl E.rn).wf=true) (hf:(kl fn).wf=true) (path:Bytes) (hp:(E.place E.rm E.rn && E.place fm fn)=true) (hx:Nm.err path=0) (R:Re) (hR:E.downed.run 40 ⟨Nm.rt path,Nm.sl path,Nm.ps path⟩ (E.down fm fn).1 (E.down fm fn).2 0=R) :
  Calls Tryz.prog 101 #[P0 t,P0 m,.agg #[I E.rm,I E.rn],.agg #[I fm,I fn],.agg #[I E.cu,I E.cg],.string (bs path),.bool E.follow] W fun e w'=>e=.returned (.tuple #[R.f.v,I (R.steps:Int),I R.why])∧Below W.heap.size W w':=by
 obtain ⟨V,hV,g1,g2,g3,g4,hB,hs⟩:=four_new W (.cells #[I E.rm,I E.rn] 50) (.cells #[I fm,I fn] 50) (.cells #[I E.cu,I E.cg] 57) zfd
 unfold zfd at hV g4
 obtain ⟨v0,v1⟩:=Mt.cells2 g1
 obtain ⟨v2,v3⟩:=Mt.cells2 g2
 simp only [Bool.and_eq_true] at hp
 have H1:=hide (place_any (D.below hB) E.rm E.rn hr true hp.1)
 have H2:=hide (fun (V':World) (g':Below V.heap.size V V')=>place_any ((D.below hB).below g') fm fn hf true hp.2)
 have HRd:=hide (Nm.read_any path)
 rw [hx] at HRd
 have hps:Nm.wt (Nm.ps path)≤5000:=by
  have h1:=(Nm.err_ok hx).2.1
  have h2:=Nm.wt_parts _ path (Nat.le_refl _)
  have h3:Nm.ende path≤1:=by unfold Nm.ende;split <;> omega
  rw [Nm.ps,if_pos hx]
  omega
 generalize Nm.rt path=ro at *
 generalize Nm.sl path=st at *
 generalize Nm.ps path=ps at *
 have HG:=hide (⟨g1,g2,g3,g4,hB,hs,D,hr,hf,hps,hR⟩:_∧_∧_∧_∧_∧_∧_∧_∧_∧_∧_)
 obtain ⟨fw,hfw⟩:∃ fw,E.follow=fw:=⟨_,rfl⟩
 rw [hfw]
 have Hfw:=hide hfw
 clear D g1 g2 g3 g4 hB hs hr hf hp hx hps hR hfw
 go_enter Tryz.func101,Tryz.ntmps101
 go_wp2_with fail
 refine (unhide H1).mono ?_
 rintro e w2 ⟨rfl,hB2⟩
 have q0:=cell_be v2 hB2
 have q1:=cell_be v3 hB2
 have H3:=hide (unhide H2 w2 hB2)
 have HB2:=hide hB2
 clear H1 H2 hB2 v0 v1 v2 v3
 go_wp2_with fail
 refine (unhide H3).mono ?_
 rintro e w3 ⟨rfl,hB3'⟩
 have HB3:=hide ((unhide HB2).trans (hB3'.mono (unhide HB2).size))
 clear hB3' HB2 H3 q0 q1
 go_wp2_with fail
 refine (unhide HRd w3).mono ?_
 rintro e w4 ⟨v,rfl,own,hB4⟩
 obtain ⟨a,vc,rfl⟩:=Nm.own_form own
 obtain ⟨g1,g2,g3,g4,hB,hs,D,hr,hf,hps,hR⟩:=unhide HG
 obtain ⟨Z,hZ,gZ,hBZ⟩:∃ Z,w4.alloc (.cells #[.bool ro,.bool st,.slice a ps.length vc] 234)=Z∧Z.heap[w4.heap.size]?=some (.cells #[.bool ro,.bool st,.slice a ps.length vc] 234)∧Below w4.heap.size w4 Z:=⟨_,rfl,heap_alloc_new _ _,(Below.refl _ _).alloc (Nat.le_refl _) _⟩
 have hB34:=(unhide HB3).trans (hB4.mono (unhide HB3).size)
 have hB5:Below V.heap.size V Z:=hB34.trans (hBZ.mono hB34.size)
 obtain ⟨a0,a1⟩:=Mt.cells2 ((hB5.block _ (by omega)).trans g1)
 obtain ⟨b0,b1⟩:=Mt.cells2 ((hB5.block _ (by omega)).trans g2)
 obtain ⟨d0,d1⟩:=Mt.cells2 ((hB5.block _ (by omega)).trans g3)
 have k4:=(hB5.block _ (by omega)).trans g4
 have hBW:Below W.heap.size W Z:=hB.trans (hB5.mono (by omega))
 have DZ:=D.below hBW
 have HDn:=hide (fun x y V' g'=>down_W DZ x y rfl rfl V' g')
 have hwf1:(kl (E.down E.rm E.rn).2).wf=true:=down_wf D.wf hr
 have hwf2:(kl (E.down fm fn).2).wf=true:=down_wf D.wf hf
 have hrw:Rw Z a ps:=(Rw.of_own own).keep fun k cur hc=>hBZ.block k (lt_of_heap hc)
 have hcap:ps.length≤vc∧vc≤maxLen:=by
  obtain ⟨hl,⟨h1,hz⟩ | ⟨g',cap',cur,h1,-,-,hcap,hcm,-,-⟩⟩:=own
  ·simp only [Value.slice.injEq] at h1
   unfold maxLen
   omega
  ·simp only [Value.slice.injEq] at h1
   obtain ⟨-,-,rfl⟩:=h1
   exact ⟨hcap,hcm⟩
 have hlw4:V.heap.size≤w4.heap.size:=hB34.size
 have hlZ:w4.heap.size < Z.heap.size:=lt_of_heap gZ
 have HM:=hide (⟨k4,hBW,DZ,hwf1,hwf2,hrw,hcap.1,hcap.2,hps,gZ,hR,hlw4⟩:_∧_∧_∧_∧_∧_∧_∧_∧_∧_∧_∧_)
 have n1:W.heap.size≠Z.heap.size:=by omega
 have n2:W.heap.size + 1≠Z.heap.size:=by omega
 have n3:W.heap.size + 1 + 1≠Z.heap.size:=by omega
 have n4:=n1.symm
 have n5:=n2.symm
 have n6:=n3.symm
 have hsV:V.heap.size=W.heap.size + 4:=hs
 have HsV:=hide hsV
 have hWZ:W.heap.size + 5≤Z.heap.size:=by omega
 clear g1 g2 g3 g4 hB hs D hr hf hps hR gZ hBZ hB34 hB5 hBW DZ hwf1 hwf2 hrw hcap own HG hB4 HB3 HRd k4 hlw4 hsV
 go_wp2_with fail
 go_cut [19] from 43 to 52 (fun s19 wk=>∃ bw,s19=P0 bw∧Wn wk bw t m E.downed (E.down fm fn).1 (E.down fm fn).2 0∧Below Z.heap.size Z wk∧Z.heap.size≤bw)
 case first =>
  go_region_held3 (fun w'=>w'.cell? ⟨W.heap.size,0,none⟩=some (I E.rm)∧w'.cell? ⟨W.heap.size,1,none⟩=some (I E.rn)∧w'.cell? ⟨W.heap.size + 1,0,none⟩=some (I fm)∧w'.cell? ⟨W.heap.size + 1,1,none⟩=some (I fn)∧w'.cell? ⟨W.heap.size + 1 + 1,0,none⟩=some (I E.cu)∧w'.cell? ⟨W.heap.size + 1 + 1,1,none⟩=some (I E.cg)) (go_keep)
   (first
    | (go_at_call 38;refine (unhide HDn _ _ w6 (unhide HBZ).1).mono ?_;rintro e w7 ⟨rfl,HB7⟩;have hB7:=(unhide HBZ).1.trans ((unhide HB7).mono (unhide HBZ).1.size);have hle7:Z.heap.size≤Z.heap.size:=Nat.le_refl _;have g7:=((unhide HB7).block _ (lt_of_heap (unhide HBZ).2)).trans (unhide HBZ).2;obtain ⟨Y,hY,hYb,hYB,hYk⟩:=set9 g7 (P0 t) (P0 m) (I E.cu) (I E.cg) (I (E.down E.rm E.rn).1) (I (E.down E.rm E.rn).2) (I (E.down fm fn).1) (I (E.down fm fn).2) (I 0);obtain ⟨o0,o1,o2,o3,o4,o5,o6,o7,o8,of⟩:=cells9 g7;have r0:=cell_be a0 hB7;have r1:=cell_be a1 hB7;have r2:=cell_be b0 hB7;have r3:=cell_be b1 hB7;have r4:=cell_be d0 hB7;have r5:=cell_be d1 hB7;have HYe:=hide hY;have HOn:=hide (⟨hYb,hYB _ _ hB7 hle7,hle7⟩:_∧_∧_);clear hY hYb hYB hYk hB7 g7)
    | (go_at_call 38;refine (unhide HDn _ _ w6 (unhide HBN)).mono ?_;rintro e w7 ⟨rfl,HB7⟩;have hB7:=(unhide HBN).trans ((unhide HB7).mono (unhide HBN).size);have r0:=cell_be a0 hB7;have r1:=cell_be a1 hB7;have r2:=cell_be b0 hB7;have r3:=cell_be b1 hB7;have r4:=cell_be d0 hB7;have r5:=cell_be d1 hB7;have HBE:=hide hB7;clear hB7)
    | (go_at_call 38;refine (unhide HDn _ _ (Z.alloc (.cells #[.pointer none,.pointer none,I 0,I 0,I 0,I 0,I 0,I 0,I 0] 238)).drew (below_drew ((Below.refl _ Z).alloc (Nat.le_refl _) _))).mono ?_;rintro e w6 ⟨rfl,HB6⟩;have hB6:=(below_drew ((Below.refl Z.heap.size Z).alloc (Nat.le_refl _) (.cells #[.pointer none,.pointer none,I 0,I 0,I 0,I 0,I 0,I 0,I 0] 238))).trans ((unhide HB6).mono (by show Z.heap.size≤(Z.alloc _).heap.size;simp));have hz6:=((unhide HB6).block Z.heap.size (by show Z.heap.size < (Z.alloc _).heap.size;simp)).trans (heap_alloc_new Z (.cells #[.pointer none,.pointer none,I 0,I 0,I 0,I 0,I 0,I 0,I 0] 238));have q0:=cell_be a0 hB6;have q1:=cell_be a1 hB6;have q2:=cell_be b0 hB6;have q3:=cell_be b1 hB6;have q4:=cell_be d0 hB6;have q5:=cell_be d1 hB6;have HBZ:=hide (⟨hB6,hz6⟩:_∧_);clear hB6 hz6)
    | (go_at_call 38;refine (unhide HDn _ _ Z.drew (below_drew (Below.refl _ Z))).mono ?_;rintro e w6 ⟨rfl,HB6⟩;have hB6:=(below_drew (Below.refl Z.heap.size Z)).trans (unhide HB6);have q0:=cell_be a0 hB6;have q1:=cell_be a1 hB6;have q2:=cell_be b0 hB6;have q3:=cell_be b1 hB6;have q4:=cell_be d0 hB6;have q5:=cell_be d1 hB6;have HBN:=hide hB6;clear hB6)
    | (go_at_call 38;refine (unhide HDn _ _ (w6.alloc (.cells #[.pointer none,.pointer none,I 0,I 0,I 0,I 0,I 0,I 0,I 0] 238)) ((unhide HBN).alloc (unhide HBN).size _)).mono ?_;rintro e w7 ⟨rfl,HB7⟩;have hB6:=(unhide HBN).alloc (unhide HBN).size (.cells #[.pointer none,.pointer none,I 0,I 0,I 0,I 0,I 0,I 0,I 0] 238);have hB7:=hB6.trans ((unhide HB7).mono hB6.size);have hle7:Z.heap.size≤w6.heap.size:=(unhide HBN).size;have g7:=((unhide HB7).block w6.heap.size (by simp)).trans (heap_alloc_new w6 (.cells #[.pointer none,.pointer none,I 0,I 0,I 0,I 0,I 0,I 0,I 0] 238));have m1:W.heap.size≠w6.heap.size:=(by omega);have m2:W.heap.size + 1≠w6.heap.size:=(by omega);have m3:W.heap.size + 1 + 1≠w6.heap.size:=(by omega);have m4:=m1.symm;have m5:=m2.symm;have m6:=m3.symm;clear hB6;obtain ⟨Y,hY,hYb,hYB,hYk⟩:=set9 g7 (P0 t) (P0 m) (I E.cu) (I E.cg) (I (E.down E.rm E.rn).1) (I (E.down E.rm E.rn).2) (I (E.down fm fn).1) (I (E.down fm fn).2) (I 0);obtain ⟨o0,o1,o2,o3,o4,o5,o6,o7,o8,of⟩:=cells9 g7;have r0:=cell_be a0 hB7;have r1:=cell_be a1 hB7;have r2:=cell_be b0 hB7;have r3:=cell_be b1 hB7;have r4:=cell_be d0 hB7;have r5:=cell_be d1 hB7;have HYe:=hide hY;have HOn:=hide (⟨hYb,hYB _ _ hB7 hle7,hle7⟩:_∧_∧_);clear hY hYb hYB hYk hB7 g7))
  ·rename_i hHeld
   clear hHeld r0 r1 r2 r3 r4 r5 q0 q1 q2 q3 q4 q5
   obtain ⟨Q,hQ,hQ1,hQ2⟩:∃ Q,w7.alloc (.cells (wkC E.downed t m (E.down fm fn).1 (E.down fm fn).2 0) 238)=Q∧Wn Q w7.heap.size t m E.downed (E.down fm fn).1 (E.down fm fn).2 0∧Below Z.heap.size Z Q:=⟨_,rfl,heap_alloc_new w7 _,(unhide HBE).alloc (unhide HBE).size _⟩
   have HQ:=hide (⟨hQ1,hQ2,(unhide HBE).size⟩:_∧_∧_)
   have HQe:=hide hQ
   clear hQ1 hQ2 hQ
   go_wp2_with fail
   go_meet
   case rel =>
    refine ⟨w7.heap.size,rfl,?_⟩
    have:=unhide HQ
    rw [← unhide HQe] at this
    exact this
  all_goals
   rename_i hHeld
   clear hHeld r0 r1 r2 r3 r4 r5 q0 q1 q2 q3 q4 q5
   rw [unhide HYe]
   clear o0 o1 o2 o3 o4 o5 o6 o7 o8 of HYe
   go_wp2_with fail
   go_meet
   case rel=>exact ⟨_,rfl,(unhide HOn).1,(unhide HOn).2.1,(unhide HOn).2.2⟩
 case rest =>
  obtain ⟨bw,rfl,hWn,hBk,hle⟩:=hcut
  obtain ⟨k4,hBW,DZ,hwf1,hwf2,hrw,hcap1,hcap2,hps,gZ,hR,hlw4⟩:=unhide HM
  have DA:=DZ.downed.below hBk
  have hrwA:=hrw.keep fun k cur hc=>hBk.block k (lt_of_heap hc)
  have HAl:=hide (along_any (p:=⟨ro,st,ps⟩) DA hWn hwf2 hwf1 hrwA hcap1 hcap2 hps (Nat.zero_le _) R hR)
  rw [show E.downed.follow=fw from unhide Hfw] at HAl
  have gA:=(hBk.block _ (lt_of_heap gZ)).trans gZ
  obtain ⟨p0,p1,p2,-⟩:=cells3 gA
  have kA:=(hBk.block _ (lt_of_heap k4)).trans k4
  obtain ⟨F,hF⟩:∃ F,R.f=F:=⟨_,rfl⟩
  rw [hF] at HAl
  unfold Fd.v at HAl
  have HFh:=hide hF
  have hbwl:=hWn.lt
  have hhl:=lt_of_heap k4
  have HN:=hide (⟨hBW.trans (hBk.mono hBW.size),kA⟩:_∧_)
  have hWh:W.heap.size + 1 + 1 + 1 < bw:=by omega
  obtain ⟨st2,hst2⟩:∃ z:Nat,R.steps=z:=⟨_,rfl⟩
  obtain ⟨wy,hwy⟩:∃ z,R.why=z:=⟨_,rfl⟩
  rw [hst2,hwy] at HAl
  have Hs2:=hide hst2
  have Hwy:=hide hwy
  clear hWn hBk k4 hBW DZ hwf1 hwf2 hrw hcap1 hcap2 hps gZ hR hlw4 DA hrwA gA kA HM hF a0 a1 b0 b1 d0 d1 HDn hst2 hwy n1 n2 n3 n4 n5 n6
  generalize ps.length=pl at *
  go_wp2_with fail
  refine (unhide HAl).mono ?_
  rintro e w8 ⟨rfl,hW8,hF8⟩
  obtain ⟨hBA,kA⟩:=unhide HN
  have hb8:=hF8.size
  have k8:=(hF8.blk _ (lt_of_heap kA) (by simp;omega)).trans kA
  obtain ⟨Q,hQ,gQ,hBQ⟩:∃ Q,w8.alloc (.cells #[I F.dm,I F.dn,.string (bs F.last),I F.am,I F.an,.bool F.has,.bool F.slash] 59)=Q∧Q.heap[w8.heap.size]?=some (.cells #[I F.dm,I F.dn,.string (bs F.last),I F.am,I F.an,.bool F.has,.bool F.slash] 59)∧Below w8.heap.size w8 Q:=⟨_,rfl,heap_alloc_new _ _,(Below.refl _ _).alloc (Nat.le_refl _) _⟩
  have kQ:=(hBQ.block _ (lt_of_heap k8)).trans k8
  obtain ⟨-,-,-,-,-,-,-,-,u8,-⟩:=(hW8.below hBQ).cells
  obtain ⟨e0,e1,e2,e3,e4,e5,e6,-⟩:=cells7 gQ
  obtain ⟨r0,r1,r2,r3,r4,r5,r6,rf⟩:=cells7 kQ
  obtain ⟨Y,hY,hYb,hYB⟩:=set7d kQ (I F.dm) (I F.dn) (.string (bs F.last)) (I F.am) (I F.an) (.bool F.has) (.bool F.slash)
  obtain ⟨z0,z1,z2,z3,z4,z5,z6,-⟩:=cells7 hYb
  have hBF:Below W.heap.size W Q:=by
   refine (hBA.trans (hF8.base (B:=W.heap.size) hBA.size (by simp;omega))).trans (hBQ.mono ?_)
   exact Nat.le_trans hBA.size hb8
  have HY:=hide hY
  have HYB:=hide (hYB _ _ hBF (by omega))
  have j1:W.heap.size + 1 + 1 + 1≠w8.heap.size:=by have:=lt_of_heap k8;omega
  have j2:=j1.symm
  have j3:bw≠W.heap.size + 1 + 1 + 1:=by omega
  have j4:=j3.symm
  clear hW8 hF8 hBA kA hb8 k8 gQ hBQ kQ hY hYb hYB hBF HAl HN p0 p1 p2
  go_wp2_with fail
  go_region_held3 (fun w'=>w'.cell? ⟨w8.heap.size,0,none⟩=some (I F.dm)∧w'.cell? ⟨w8.heap.size,1,none⟩=some (I F.dn)∧w'.cell? ⟨w8.heap.size,2,none⟩=some (.string (bs F.last))∧w'.cell? ⟨w8.heap.size,3,none⟩=some (I F.am)∧w'.cell? ⟨w8.heap.size,4,none⟩=some (I F.an)∧w'.cell? ⟨w8.heap.size,5,none⟩=some (.bool F.has)∧w'.cell? ⟨w8.heap.size,6,none⟩=some (.bool F.slash)∧w'.cell? ⟨bw,8,none⟩=some (I (st2:Int))) (go_keep) (fail)
  rw [unhide HY]
  go_wp2_with fail
  refine bodyPost_ret (v:=.tuple #[.agg #[I F.dm,I F.dn,.string (bs F.last),I F.am,I F.an,.bool F.has,.bool F.slash],I (st2:Int),I wy]) (by simp [results,Tryz.results101,go_sem,z0,z1,z2,z3,z4,z5,z6]) rfl ?_
  refine ⟨?_,unhide HYB⟩
  rw [unhide HFh,unhide Hs2,unhide Hwy]
  rfl
end
attribute [local go_sem ↓] Go.wp_at_zero Go.wp_at_succ
section
variable {lo N mb:Nat} {W:World} {t m:Nat} {E:En}
theorem walk_any (D:Wd lo N mb W t m E) (fm fn:Int) (hr:(kl E.rn).wf=true) (hf:(kl fn).wf=true) (path:Bytes) (R:Re) (hR:E.walk fm fn path=R) :
  Calls Tryz.prog 101 #[P0 t,P0 m,.agg #[I E.rm,I E.rn],.agg #[I fm,I fn],.agg #[I E.cu,I E.cg],.string (bs path),.bool E.follow] W fun e w'=>e=.returned (.tuple #[R.f.v,I (R.steps:Int),I R.why])∧Below W.heap.size W w':=by
 cases hp:(E.place E.rm E.rn && E.place fm fn) with
 | false =>
  rw [En.walk,if_neg (by simp [hp])] at hR
  subst hR
  exact walk_no D fm fn hr hf path hp
 | true =>
  rw [En.walk,if_pos hp] at hR
  by_cases hx:Nm.err path=0
  ·rw [if_pos hx] at hR
   exact walk_yes D fm fn hr hf path hp hx R hR
  ·rw [if_neg hx] at hR
   subst hR
   exact walk_bad D fm fn hr hf path hp _ rfl hx
theorem Walk_any (D:Wd lo N mb W t m E) (fm fn:Int) (hr:(kl E.rn).wf=true) (hf:(kl fn).wf=true) (path:Bytes) (R:Re) (hR:E.walk fm fn path=R) :
  Calls Tryz.prog 27 #[P0 t,P0 m,.agg #[I E.rm,I E.rn],.agg #[I fm,I fn],.agg #[I E.cu,I E.cg],.string (bs path),.bool E.follow] W fun e w'=>e=.returned (.tuple #[R.f.v,I R.why])∧Below W.heap.size W w':=by
 obtain ⟨V,hV,g1,g2,g3,g4,hB,hs⟩:=four_new W (.cells #[I E.rm,I E.rn] 50) (.cells #[I fm,I fn] 50) (.cells #[I E.cu,I E.cg] 57) zfd
 unfold zfd at hV g4
 obtain ⟨a0,a1⟩:=Mt.cells2 g1
 obtain ⟨b0,b1⟩:=Mt.cells2 g2
 obtain ⟨d0,d1⟩:=Mt.cells2 g3
 have HW:=hide (walk_any (D.below hB) fm fn hr hf path R hR)
 obtain ⟨F,hF⟩:∃ F,R.f=F:=⟨_,rfl⟩
 obtain ⟨wy,hwy⟩:∃ z,R.why=z:=⟨_,rfl⟩
 rw [hF,hwy] at HW ⊢
 unfold Fd.v at HW ⊢
 have HG:=hide (⟨g4,hB,hs⟩:_∧_∧_)
 clear D g1 g2 g3 g4 hB hs hr hf hR hF hwy
 go_enter Tryz.func27,Tryz.ntmps27
 go_wp2_with fail
 refine (unhide HW).mono ?_
 rintro e w3 ⟨rfl,hB3⟩
 obtain ⟨g4,hB,hs⟩:=unhide HG
 obtain ⟨Q,hQ,gQ,hBQ⟩:∃ Q,w3.alloc (.cells #[I F.dm,I F.dn,.string (bs F.last),I F.am,I F.an,.bool F.has,.bool F.slash] 59)=Q∧Q.heap[w3.heap.size]?=some (.cells #[I F.dm,I F.dn,.string (bs F.last),I F.am,I F.an,.bool F.has,.bool F.slash] 59)∧Below w3.heap.size w3 Q:=⟨_,rfl,heap_alloc_new _ _,(Below.refl _ _).alloc (Nat.le_refl _) _⟩
 have hB5:=hB3.trans (hBQ.mono hB3.size)
 have g5:=(hB5.block _ (by omega)).trans g4
 obtain ⟨e0,e1,e2,e3,e4,e5,e6,-⟩:=cells7 gQ
 obtain ⟨r0,r1,r2,r3,r4,r5,r6,rf⟩:=cells7 g5
 obtain ⟨Y,hY,hYb,hYB⟩:=set7 g5 (I F.dm) (I F.dn) (.string (bs F.last)) (I F.am) (I F.an) (.bool F.has) (.bool F.slash)
 obtain ⟨z0,z1,z2,z3,z4,z5,z6,-⟩:=cells7 hYb
 have HY:=hide hY
 have HYB:=hide (fin4 hs hB hB5 hYB)
 clear g4 hB hs g5 gQ hBQ hB5 hY hYb hYB hB3 HW HG a0 a1 b0 b1 d0 d1
 go_wp2_with fail
 rw [unhide HY]
 refine bodyPost_ret (v:=.tuple #[.agg #[I F.dm,I F.dn,.string (bs F.last),I F.am,I F.an,.bool F.has,.bool F.slash],I wy]) (by simp [results,Tryz.results27,go_sem,z0,z1,z2,z3,z4,z5,z6]) rfl ?_
 exact ⟨rfl,unhide HYB⟩
theorem three_new (W:World) (o1 o2 o3:Obj):∃ V,((W.alloc o1).alloc o2).alloc o3=V∧V.heap[W.heap.size]?=some o1∧V.heap[W.heap.size + 1]?=some o2∧V.heap[W.heap.size + 1 + 1]?=some o3∧Below W.heap.size W V:=by
 obtain ⟨V1,h1,g1,g2,hB1,hs1⟩:=two_new W o1 o2
 refine ⟨V1.alloc o3,by rw [h1],(Below.heap_alloc _ _ _ (by omega)).trans g1,(Below.heap_alloc _ _ _ (by omega)).trans g2,by rw [show W.heap.size + 1 + 1=V1.heap.size by omega];exact heap_alloc_new _ _,hB1.alloc hB1.size _⟩
theorem Steps_any (D:Wd lo N mb W t m E) (fm fn:Int) (hr:(kl E.rn).wf=true) (hf:(kl fn).wf=true) (path:Bytes) (R:Re) (hR:E.walk fm fn path=R) :
  Calls Tryz.prog 31 #[P0 t,P0 m,.agg #[I E.rm,I E.rn],.agg #[I fm,I fn],.agg #[I E.cu,I E.cg],.string (bs path),.bool E.follow] W fun e w'=>e=.returned (I (R.steps:Int))∧Below W.heap.size W w':=by
 obtain ⟨V,hV,g1,g2,g3,hB⟩:=three_new W (.cells #[I E.rm,I E.rn] 50) (.cells #[I fm,I fn] 50) (.cells #[I E.cu,I E.cg] 57)
 obtain ⟨a0,a1⟩:=Mt.cells2 g1
 obtain ⟨b0,b1⟩:=Mt.cells2 g2
 obtain ⟨d0,d1⟩:=Mt.cells2 g3
 have HW:=hide (walk_any (D.below hB) fm fn hr hf path R hR)
 obtain ⟨F,hF⟩:∃ F,R.f=F:=⟨_,rfl⟩
 rw [hF] at HW
 unfold Fd.v at HW
 have HG:=hide hB
 clear D g1 g2 g3 hB hr hf hR hF
 go_enter Tryz.func31,Tryz.ntmps31
 go_wp2_with fail
 refine (unhide HW).mono ?_
 rintro e w3 ⟨rfl,hB3⟩
 have HF:=hide (((unhide HG).trans (hB3.mono (unhide HG).size)).alloc (Nat.le_trans (unhide HG).size hB3.size) (.cells #[I F.dm,I F.dn,.string (bs F.last),I F.am,I F.an,.bool F.has,.bool F.slash] 59))
 clear hB3 HW HG a0 a1 b0 b1 d0 d1
 go_wp2_with fail
 go_ret
 exact ⟨rfl,unhide HF⟩
end
theorem top_any (W:World):Calls Tryz.prog 28 #[] W fun e w'=>e=.returned (.agg #[I 0,I 1])∧Below W.heap.size W w':=by
 obtain ⟨V,hV,g1,hB⟩:∃ V,W.alloc (.cells #[I 0,I 0] 50)=V∧V.heap[W.heap.size]?=some (.cells #[I 0,I 0] 50)∧Below W.heap.size W V:=⟨_,rfl,heap_alloc_new W _,(Below.refl _ W).alloc (Nat.le_refl _) _⟩
 obtain ⟨X1,X2,⟨x1,x2⟩,⟨y0,y1⟩,⟨f0,f1⟩,hX,-,hXB,-⟩:=ans2 g1 (Below.refl _ V) (I 0) (I 1)
 have z0:X2.cell? ⟨W.heap.size,0,none⟩=some (I 0):=by rw [cell_of hX];rfl
 have z1:X2.cell? ⟨W.heap.size,1,none⟩=some (I 1):=by rw [cell_of hX];rfl
 have HX:=hide (hXB _ _ hB (Nat.le_refl _))
 clear hX hXB g1 hB
 go_enter Tryz.func28,Tryz.ntmps28
 go_wp2_with fail
 refine bodyPost_ret (v:=.agg #[I 0,I 1]) (by simp [results,Tryz.results28,go_sem,z0,z1]) rfl ?_
 exact ⟨rfl,unhide HX⟩
end Go.Proofs.YtlngeaacjbdmhaaGreat.Wl
namespace Go.Proofs.YtlngeaacjbdmhaaGreat.Rb
open Go.RowKit Go.Maps
theorem wf_bounds {x:Int} (h:(Lit.int .i64 x).wf=true):-9223372036854775808≤x∧x≤9223372036854775807:=by
 simp [Lit.wf] at h
 exact h
theorem get_nat {s:S} {j:Nat} {o:Option F} (h:s.fs[j]?=some o):s.get ((j:Int) + 1)=o:=by
 simp only [S.get]
 rw [if_pos (by omega),show ((j:Int) + 1).toNat - 1=j by omega,h]
 cases o <;> rfl
open Go.RowKit Go.Maps
def bools (h:Nat→Bool):List Value:=(List.range 64).map fun k=>.bool (h k)
theorem bools_get (h:Nat→Bool) {k:Nat} (hk:k < 64):(bools h)[k]?=some (.bool (h k)):=by simp [bools,hk]
structure RF (base lim:Nat) (W:World) (c:Nat) (bv:Value) (x:F):Prop where
 hc:W.heap[c]?=some (.cells (bv :: bools x.has).toArray 268)
 hb:W.ownsRow base 5 1 bv x.size (lst x.byte 0 x.size)
 lc:base≤c∧c < lim
 lb:∀ g,bv.ownBlock=some g→g < lim
 ok:x.Ok
def ptrV (fb:Nat→Nat) (i:Nat):Option F→Value
 | none=>.pointer none
 | some _=>P0 (fb i)
def ptrs (fs:List (Option F)) (fb:Nat→Nat):List Value:=fs.mapIdx (ptrV fb)
theorem ptrs_get (fs:List (Option F)) (fb:Nat→Nat) (i:Nat):(ptrs fs fb)[i]?=(fs[i]?).map (ptrV fb i):=by simp [ptrs,List.getElem?_mapIdx]
theorem ptrs_len (fs:List (Option F)) (fb:Nat→Nat):(ptrs fs fb).length=fs.length:=by simp [ptrs]
structure RI (base lim n:Nat) (W:World) (q:Nat) (s:S) (Lv:Value) (fb:Nat→Nat) (bv:Nat→Value):Prop where
 hq:W.heap[q]?=some (.cells #[I n,Lv] 205)
 hL:W.ownsRow base 265 1 Lv s.fs.length (ptrs s.fs fb)
 hx:∀ i x,s.fs[i]?=some (some x)→RF base lim W (fb i) (bv i) x
 dc:∀ i j x y,s.fs[i]?=some (some x)→s.fs[j]?=some (some y)→i≠j→fb i≠fb j∧∀ g,(bv i).ownBlock=some g→(bv j).ownBlock≠some g
 lq:base≤q∧q < lim
 lL:∀ g,Lv.ownBlock=some g→g < lim
 ll:base≤lim∧lim≤W.heap.size
def Rq (base lim n:Nat) (W:World) (q:Nat) (s:S):Prop:=∃ Lv fb bv,RI base lim n W q s Lv fb bv
theorem own_at {W:World} {base:Nat} {e:TypeId} {v:Value} {n:Nat} {xs:List Value} (h:W.ownsRow base e 1 v n xs):(v=.slice none 0 0∧n=0∧xs=[]) ∨ ∃ g cap cur,v=.slice (some ⟨g,0,none⟩) n cap∧base≤g∧W.heap[g]?=some (.cells cur e)∧n≤cap∧cap≤maxLen∧cur.size=cap∧cur.toList.take n=xs:=by
 rcases h with ⟨h1,⟨h2,h3⟩ | ⟨g,cap,cur,h2,h3,h4,h5,h6,h7,h8⟩⟩
 ·refine .inl ⟨h2,h3,?_⟩
  subst h3
  exact List.eq_nil_of_length_eq_zero (by simpa using h1)
 ·exact .inr ⟨g,cap,cur,h2,h3,h4,h5,h6,by simpa using h7,by simpa using h8⟩
theorem own_keep {W W':World} {base:Nat} {e:TypeId} {v:Value} {n:Nat} {xs:List Value} (h:W.ownsRow base e 1 v n xs) (hk:∀ g (cur:Array Value),v.ownBlock=some g→W.heap[g]?=some (.cells cur e)→W'.heap[g]?=W.heap[g]?):W'.ownsRow base e 1 v n xs:=by
 obtain ⟨h1,h2 | ⟨g,cap,cur,rfl,h3,h4,h5⟩⟩:=h
 ·exact ⟨h1,.inl h2⟩
 ·exact ⟨h1,.inr ⟨g,cap,cur,rfl,h3,(hk g cur rfl h4).trans h4,h5⟩⟩
theorem own_cell {W:World} {base:Nat} {e:TypeId} {v:Value} {n:Nat} {xs:List Value} (h:W.ownsRow base e 1 v n xs) {j:Nat} (hj:j < n):∃ g cap,v=.slice (some ⟨g,0,none⟩) n cap∧base≤g∧W.cell? ⟨g,j,none⟩=xs[j]?∧(∀ i,W.frozen? ⟨g,i,none⟩=false):=by
 rcases own_at h with ⟨_,h2,_⟩ | ⟨g,cap,cur,h1,h2,h3,h4,_,h5,h6⟩
 ·omega
 ·refine ⟨g,cap,h1,h2,?_,frozen_of h3⟩
  rw [cell_of h3,← h6,List.getElem?_take,if_pos hj]
  simp
theorem own_val {W:World} {base:Nat} {e:TypeId} {v:Value} {n:Nat} {xs:List Value} (h:W.ownsRow base e 1 v n xs):∃ a cap,v=.slice a n cap∧n≤cap:=by
 rcases own_at h with ⟨h1,h2,_⟩ | ⟨g,cap,cur,h1,_,_,h4,_⟩
 ·exact ⟨none,0,by rw [h1,h2],by omega⟩
 ·exact ⟨_,cap,h1,h4⟩
section
variable {base lim n:Nat} {W W':World} {q:Nat} {s:S} {Lv:Value} {fb:Nat→Nat} {bv:Nat→Value}
theorem RI.keep (h:RI base lim n W q s Lv fb bv) (hs:W.heap.size≤W'.heap.size) (hk:∀ (b:Nat) (cs:Array Value) (t:TypeId) (f:Nat × Nat),W.heap[b]?=some (.cells cs t f)→t=205 ∨ t=265 ∨ t=268 ∨ t=5→W'.heap[b]?=W.heap[b]?):RI base lim n W' q s Lv fb bv :=
 ⟨(hk _ _ _ _ h.hq (by decide)).trans h.hq,own_keep h.hL fun g cur _ hg=>hk _ _ _ _ hg (by decide),fun i x hi=>⟨(hk _ _ _ _ (h.hx i x hi).hc (by decide)).trans (h.hx i x hi).hc,own_keep (h.hx i x hi).hb fun g cur _ hg=>hk _ _ _ _ hg (by decide),(h.hx i x hi).lc,(h.hx i x hi).lb,(h.hx i x hi).ok⟩,h.dc,h.lq,h.lL,h.ll.1,Nat.le_trans h.ll.2 hs⟩
theorem RI.below (h:RI base lim n W q s Lv fb bv) (g:Below W.heap.size W W'):RI base lim n W' q s Lv fb bv:=h.keep g.size fun b _ _ _ hb _=>g.block b (lt_of_heap hb)
theorem RI.mono (h:RI base lim n W q s Lv fb bv) {lim':Nat} (h1:lim≤lim') (h2:lim'≤W.heap.size):RI base lim' n W q s Lv fb bv :=
 ⟨h.hq,h.hL,fun i x hi=>⟨(h.hx i x hi).hc,(h.hx i x hi).hb,⟨(h.hx i x hi).lc.1,by have:=(h.hx i x hi).lc.2;omega⟩,fun g hg=>by have:=(h.hx i x hi).lb g hg;omega,(h.hx i x hi).ok⟩,h.dc,⟨h.lq.1,by have:=h.lq.2;omega⟩,fun g hg=>by have:=h.lL g hg;omega,by have:=h.ll;omega,h2⟩
theorem Rq.below (h:Rq base lim n W q s) (g:Below W.heap.size W W'):Rq base lim n W' q s:=let ⟨Lv,fb,bv,h⟩:=h;⟨Lv,fb,bv,h.below g⟩
theorem Rq.mono (h:Rq base lim n W q s) {lim':Nat} (h1:lim≤lim') (h2:lim'≤W.heap.size):Rq base lim' n W q s:=let ⟨Lv,fb,bv,h⟩:=h;⟨Lv,fb,bv,h.mono h1 h2⟩
theorem Rq.nx (h:Rq base lim n W q s) {bs:Bse} (g:Nx bs W W'):Rq base lim n W' q s:=let ⟨Lv,fb,bv,h⟩:=h;⟨Lv,fb,bv,h.keep g.bel.size fun b cs t f hb ht=>(g.oth b cs t f hb (by rcases ht with rfl | rfl | rfl | rfl <;> decide) (by rcases ht with rfl | rfl | rfl | rfl <;> decide)).trans hb.symm⟩
theorem RI.cells (h:RI base lim n W q s Lv fb bv):W.cell? ⟨q,0,none⟩=some (I n)∧W.cell? ⟨q,1,none⟩=some Lv∧∀ i,W.frozen? ⟨q,i,none⟩=false :=
 ⟨by rw [cell_of h.hq];rfl,by rw [cell_of h.hq];rfl,frozen_of h.hq⟩
end
def ofV (s:S) (fb:Nat→Nat) (f:Int):Value:=match s.get f with | none=>.pointer none | some _=>P0 (fb (f.toNat - 1))
theorem of_any {base lim n:Nat} {W:World} {q:Nat} {s:S} {Lv:Value} {fb:Nat→Nat} {bv:Nat→Value} (h:RI base lim n W q s Lv fb bv) (f:Int) (hf:(kl f).wf=true) (hl:s.fs.length≤1000000) :
  Calls Tryz.prog 219 #[P0 q,I f] W fun e w'=>e=.returned (ofV s fb f)∧w'=W:=by
 obtain ⟨c0,c1,cf⟩:=h.cells
 have hfb:=wf_bounds hf
 by_cases h1:f < 1
 ·have e:ofV s fb f=.pointer none:=by simp only [ofV,S.get];rw [if_neg (by omega)]
  rw [e]
  clear h
  go_enter Tryz.func219,Tryz.ntmps219
  go_wp2_with fail
  go_ret
  exact ⟨rfl,rfl⟩
 ·obtain ⟨a,cap,hLv,hcap⟩:=own_val h.hL
  obtain ⟨L,hL⟩:∃ L:Nat,L=s.fs.length:=⟨_,rfl⟩
  rw [hLv,← hL] at c1
  by_cases h2:(L:Int) < f
  ·have e:ofV s fb f=.pointer none:=by
    simp only [ofV,S.get]
    rw [if_pos (by omega),List.getElem?_eq_none (by omega)]
    rfl
   rw [e]
   replace hL:=hide hL
   clear h hLv hcap
   go_enter Tryz.func219,Tryz.ntmps219
   go_wp2_with fail
   go_ret
   exact ⟨rfl,rfl⟩
  ·obtain ⟨k,hk⟩:∃ k:Nat,f=(k:Int) + 1:=⟨(f - 1).toNat,by omega⟩
   have hkL:k < s.fs.length:=by omega
   obtain ⟨g,cap2,e1,_,hc,_⟩:=own_cell h.hL hkL
   rw [ptrs_get] at hc
   obtain ⟨o,ho⟩:∃ o,s.fs[k]?=some o:=⟨_,List.getElem?_eq_getElem hkL⟩
   rw [ho] at hc
   have e:ofV s fb f=ptrV fb k o:=by
    simp only [ofV]
    rw [hk,get_nat ho]
    cases o with
    | none=>rfl
    | some x=>simp [ptrV]
   rw [e]
   obtain ⟨v,hv⟩:∃ v,v=ptrV fb k o:=⟨_,rfl⟩
   rw [e1,hL.symm] at hLv
   cases hLv
   rw [Option.map_some,← hv] at hc
   rw [← hv]
   have k2:(k:Int) < (L:Int):=by omega
   have k3:¬ ((k:Int) + 1 < 1):=by omega
   have k4:¬ ((L:Int) < (k:Int) + 1):=by omega
   have k5:(k:Int)≤1000000:=by omega
   have k6:(0:Int)≤(k:Int):=by omega
   subst hk
   replace hL:=hide hL
   clear h hv e hcap e1 ho h1 h2
   go_enter Tryz.func219,Tryz.ntmps219
   go_wp2_with fail
   go_ret
   exact ⟨rfl,rfl⟩
open Go.RowKit Go.Maps
theorem RF.cells {base lim:Nat} {W:World} {c:Nat} {bv:Value} {x:F} (h:RF base lim W c bv x):W.cell? ⟨c,0,none⟩=some bv∧(∀ k,k < 64→W.cell? ⟨c,1 + k,none⟩=some (.bool (x.has k)))∧∀ i,W.frozen? ⟨c,i,none⟩=false:=by
 refine ⟨by rw [cell_of h.hc];rfl,fun k hk=>?_,frozen_of h.hc⟩
 rw [cell_of h.hc]
 simp only [List.getElem?_toArray]
 rw [Nat.add_comm,List.getElem?_cons_succ,bools_get x.has hk]
theorem Sget_at {s:S} {f:Int} {x:F} (h:s.get f=some x):s.fs[f.toNat - 1]?=some (some x):=(S.get_at h).2
theorem rsize_any {base lim n:Nat} {W:World} {q:Nat} {s:S} (h:Rq base lim n W q s) (f:Int) (hf:(kl f).wf=true) (hl:s.fs.length≤1000000) :
  Calls Tryz.prog 145 #[P0 q,I f] W fun e w'=>e=.returned (I (sizeO (s.get f)))∧w'=W:=by
 obtain ⟨Lv,fb,bv,h⟩:=h
 cases e:s.get f with
 | none =>
  have he:ofV s fb f=.pointer none:=by simp only [ofV,e]
  go_enter Tryz.func145,Tryz.ntmps145
  go_wp2_with fail
  refine (of_any h f hf hl).mono ?_
  rintro e w1 ⟨rfl,rfl⟩
  rw [he]
  go_wp2_with fail
  go_ret
  exact ⟨rfl,rfl⟩
 | some x =>
  have he:ofV s fb f=P0 (fb (f.toNat - 1)):=by simp only [ofV,e]
  have hx:=h.hx _ x (Sget_at e)
  obtain ⟨c0,_,_⟩:=hx.cells
  obtain ⟨a,cap,hb,_⟩:=own_val hx.hb
  rw [hb] at c0
  clear hb
  go_enter Tryz.func145,Tryz.ntmps145
  go_wp2_with fail
  refine (of_any h f hf hl).mono ?_
  rintro e w1 ⟨rfl,rfl⟩
  rw [he]
  go_wp2_with fail
  go_ret
  exact ⟨rfl,rfl⟩
theorem rnew_any (n:Nat) (l:Nat) (w:World):Calls Tryz.prog 61 #[I (n:Int)] w fun e w'=>e=.returned (P0 w.heap.size)∧Rq w.heap.size w'.heap.size n w' w.heap.size ⟨l,[]⟩∧Below w.heap.size w w':=by
 go_enter Tryz.func61,Tryz.ntmps61
 go_wp2_with fail
 go_ret
 refine ⟨rfl,?_,(Below.refl _ w).alloc (Nat.le_refl _) _⟩
 have hno:∀ (i:Nat) (x:F),(⟨l,[]⟩:S).fs[i]?=some (some x)→False:=fun i x h=>by simp at h
 exact ⟨.slice none 0 0,fun _=>0,fun _=>.slice none 0 0,heap_alloc_new _ _,World.ownsRow_nil _ _ _ _,fun i x h=>(hno i x h).elim,fun i _ x _ h=>(hno i x h).elim,⟨Nat.le_refl _,by simp⟩,fun g hg=>(by cases hg),⟨by simp,Nat.le_refl _⟩⟩
end Go.Proofs.YtlngeaacjbdmhaaGreat.Rb
