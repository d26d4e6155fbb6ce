/-
 The contracts of small and Tame: a change with small numbers and short names.
-/
import Derived.Test.YtlngeaacjbdmhaaGreatPp33
import Derived.Deep.RegionWith
import Derived.BigRegion
import Derived.Test.YtlngeaacjbdmhaaGreatPp19
set_option maxRecDepth 100000
set_option maxHeartbeats 8000000
namespace Go.Proofs.YtlngeaacjbdmhaaGreat.Bt
open Go.RowKit
attribute [local go_sem ↓] Go.wp_at_zero Go.wp_at_succ
abbrev nA:ByteArray:=⟨#[97]⟩
abbrev nB:ByteArray:=⟨#[98]⟩
abbrev nC:ByteArray:=⟨#[99]⟩
abbrev nL:ByteArray:=⟨#[108]⟩
def Nam (s:ByteArray):Prop:=s=nA ∨ s=nB ∨ s=nC ∨ s=nL
def texts:List ByteArray:=[⟨#[97]⟩,⟨#[46,46,47,98]⟩,⟨#[47,97,47,98]⟩,⟨#[108]⟩,⟨#[46]⟩,⟨#[97,47]⟩,⟨#[47]⟩,⟨#[]⟩,⟨#[120,47,121]⟩,⟨#[46,46,47,46,46,47,97,47,108]⟩]
theorem cells15 {W:World} {b:Nat} {v0 v1 v2 v3 v4 v5 v6 v7 v8 v9 v10 v11 v12 v13 v14:Value} {ty:TypeId} (h:W.heap[b]?=some (.cells #[v0,v1,v2,v3,v4,v5,v6,v7,v8,v9,v10,v11,v12,v13,v14] ty)):W.cell? ⟨b,0,none⟩=some v0∧W.cell? ⟨b,1,none⟩=some v1∧W.cell? ⟨b,2,none⟩=some v2∧W.cell? ⟨b,3,none⟩=some v3∧W.cell? ⟨b,4,none⟩=some v4∧W.cell? ⟨b,5,none⟩=some v5∧W.cell? ⟨b,6,none⟩=some v6∧W.cell? ⟨b,7,none⟩=some v7∧W.cell? ⟨b,8,none⟩=some v8∧W.cell? ⟨b,9,none⟩=some v9∧W.cell? ⟨b,10,none⟩=some v10∧W.cell? ⟨b,11,none⟩=some v11∧W.cell? ⟨b,12,none⟩=some v12∧W.cell? ⟨b,13,none⟩=some v13∧W.cell? ⟨b,14,none⟩=some v14∧∀ i,W.frozen? ⟨b,i,none⟩=false:=by
 refine ⟨?_,?_,?_,?_,?_,?_,?_,?_,?_,?_,?_,?_,?_,?_,?_,frozen_of h⟩ <;> (rw [cell_of h];rfl)
theorem put15 {W:World} {q:Nat} {z0 z1 z2 z3 z4 z5 z6 z7 z8 z9 z10 z11 z12 z13 z14 v0 v1 v2 v3 v4 v5 v6 v7 v8 v9 v10 v11 v12 v13 v14:Value} {ty:TypeId} (h:W.heap[q]?=some (.cells #[z0,z1,z2,z3,z4,z5,z6,z7,z8,z9,z10,z11,z12,z13,z14] ty)):(((((((((((((((W.setCell ⟨q,0,none⟩ v0).setCell ⟨q,1,none⟩ v1).setCell ⟨q,2,none⟩ v2).setCell ⟨q,3,none⟩ v3).setCell ⟨q,4,none⟩ v4).setCell ⟨q,5,none⟩ v5).setCell ⟨q,6,none⟩ v6).setCell ⟨q,7,none⟩ v7).setCell ⟨q,8,none⟩ v8).setCell ⟨q,9,none⟩ v9).setCell ⟨q,10,none⟩ v10).setCell ⟨q,11,none⟩ v11).setCell ⟨q,12,none⟩ v12).setCell ⟨q,13,none⟩ v13).setCell ⟨q,14,none⟩ v14).heap[q]?=some (.cells #[v0,v1,v2,v3,v4,v5,v6,v7,v8,v9,v10,v11,v12,v13,v14] ty):=by
 rw [heap_set (heap_set (heap_set (heap_set (heap_set (heap_set (heap_set (heap_set (heap_set (heap_set (heap_set (heap_set (heap_set (heap_set (heap_set h 0 _) 1 _) 2 _) 3 _) 4 _) 5 _) 6 _) 7 _) 8 _) 9 _) 10 _) 11 _) 12 _) 13 _) 14 _]
 simp only [List.setIfInBounds_toArray,List.set_cons_succ,List.set_cons_zero]
theorem put15b {w W:World} {p q:Nat} {v0 v1 v2 v3 v4 v5 v6 v7 v8 v9 v10 v11 v12 v13 v14:Value} (hp:p≤q) (h:Below p w W):Below p w (((((((((((((((W.setCell ⟨q,0,none⟩ v0).setCell ⟨q,1,none⟩ v1).setCell ⟨q,2,none⟩ v2).setCell ⟨q,3,none⟩ v3).setCell ⟨q,4,none⟩ v4).setCell ⟨q,5,none⟩ v5).setCell ⟨q,6,none⟩ v6).setCell ⟨q,7,none⟩ v7).setCell ⟨q,8,none⟩ v8).setCell ⟨q,9,none⟩ v9).setCell ⟨q,10,none⟩ v10).setCell ⟨q,11,none⟩ v11).setCell ⟨q,12,none⟩ v12).setCell ⟨q,13,none⟩ v13).setCell ⟨q,14,none⟩ v14):=(((((((((((((((h.setCell (p:=⟨q,0,none⟩) hp _).setCell (p:=⟨q,1,none⟩) hp _).setCell (p:=⟨q,2,none⟩) hp _).setCell (p:=⟨q,3,none⟩) hp _).setCell (p:=⟨q,4,none⟩) hp _).setCell (p:=⟨q,5,none⟩) hp _).setCell (p:=⟨q,6,none⟩) hp _).setCell (p:=⟨q,7,none⟩) hp _).setCell (p:=⟨q,8,none⟩) hp _).setCell (p:=⟨q,9,none⟩) hp _).setCell (p:=⟨q,10,none⟩) hp _).setCell (p:=⟨q,11,none⟩) hp _).setCell (p:=⟨q,12,none⟩) hp _).setCell (p:=⟨q,13,none⟩) hp _).setCell (p:=⟨q,14,none⟩) hp _)
structure TA (w W:World) (p:Nat) (A:Array Value) (L:List (Nat × Array Value)):Prop where
 x:W.heap[p]?=some (.cells A 52)
 z:W.heap[p + 1]?=some (.cells #[Value.int IntKind.i64 0,Value.int IntKind.i64 0,Value.int IntKind.i64 0,Value.int IntKind.i64 0,Value.string { data:=#[] },Value.string { data:=#[] },Value.int IntKind.i64 0,Value.int IntKind.i64 0,Value.int IntKind.i64 0,Value.int IntKind.i64 0,Value.int IntKind.i64 0,Value.int IntKind.i64 0,Value.int IntKind.i64 0,Value.int IntKind.i64 0,Value.int IntKind.i64 0] 52)
 b:Below p w W
 l:∀ c ∈ L,W.heap[c.1]?=some (.cells c.2 9)∧p + 1 < c.1
theorem TA.set {w W:World} {p:Nat} {A:Array Value} {L:List (Nat × Array Value)} (h:TA w W p A L) (i:Nat) (v:Value):TA w (W.setCell ⟨p,i,none⟩ v) p (A.setIfInBounds i v) L :=
 ⟨by rw [heap_set h.x],(Below.heap_setCell _ _ _ _ (by simp)).trans h.z,h.b.setCell (p:=⟨p,i,none⟩) (by simp) v,fun c hc=>⟨(Below.heap_setCell _ _ _ _ (show c.1≠p by have:=(h.l c hc).2;omega)).trans (h.l c hc).1,(h.l c hc).2⟩⟩
theorem TA.row {w W:World} {p:Nat} {A:Array Value} {L:List (Nat × Array Value)} (h:TA w W p A L) (cs:Array Value):TA w (W.alloc (.cells cs 9)) p A ((W.heap.size,cs) :: L) :=
 ⟨(Below.heap_alloc _ _ _ (lt_of_heap h.x)).trans h.x,(Below.heap_alloc _ _ _ (lt_of_heap h.z)).trans h.z,h.b.alloc (Nat.le_of_lt (lt_of_heap h.x)) _,fun c hc=>by
  rcases List.mem_cons.1 hc with rfl | hc
  ·exact ⟨heap_alloc_new W _,lt_of_heap h.z⟩
  ·exact ⟨(Below.heap_alloc _ _ _ (lt_of_heap (h.l c hc).1)).trans (h.l c hc).1,(h.l c hc).2⟩⟩
theorem TA.drew {w W:World} {p:Nat} {A:Array Value} {L:List (Nat × Array Value)} (h:TA w W p A L):TA w W.drew p A L:=⟨h.x,h.z,below_dn h.b 1,h.l⟩
theorem TA.name {w W:World} {p g:Nat} {A:Array Value} {L:List (Nat × Array Value)} (h:TA w W p A L) (hg:(g,#[Value.string nA,Value.string nB,Value.string nC,Value.string nL]) ∈ L) (k:Nat) (hk:(k:Int) < 4):∃ s,Nam s∧W.cell? ⟨g,k,none⟩=some (.string s):=by
 rw [cell_of (h.l _ hg).1]
 match k,(by omega:k < 4) with
 | 0,_=>exact ⟨nA,.inl rfl,rfl⟩
 | 1,_=>exact ⟨nB,.inr (.inl rfl),rfl⟩
 | 2,_=>exact ⟨nC,.inr (.inr (.inl rfl)),rfl⟩
 | 3,_=>exact ⟨nL,.inr (.inr (.inr rfl)),rfl⟩
theorem TA.text {w W:World} {p g:Nat} {A:Array Value} {L:List (Nat × Array Value)} (h:TA w W p A L) (hg:(g,#[Value.string ⟨#[97]⟩,Value.string ⟨#[46,46,47,98]⟩,Value.string ⟨#[47,97,47,98]⟩,Value.string ⟨#[108]⟩,Value.string ⟨#[46]⟩,Value.string ⟨#[97,47]⟩,Value.string ⟨#[47]⟩,Value.string ⟨#[]⟩,Value.string ⟨#[120,47,121]⟩,Value.string ⟨#[46,46,47,46,46,47,97,47,108]⟩]) ∈ L) (k:Nat) (hk:(k:Int) < 10):∃ s,s ∈ texts∧W.cell? ⟨g,k,none⟩=some (.string s):=by
 rw [cell_of (h.l _ hg).1]
 match k,(by omega:k < 10) with
 | 0,_=>exact ⟨⟨#[97]⟩,by simp [texts],rfl⟩
 | 1,_=>exact ⟨⟨#[46,46,47,98]⟩,by simp [texts],rfl⟩
 | 2,_=>exact ⟨⟨#[47,97,47,98]⟩,by simp [texts],rfl⟩
 | 3,_=>exact ⟨⟨#[108]⟩,by simp [texts],rfl⟩
 | 4,_=>exact ⟨⟨#[46]⟩,by simp [texts],rfl⟩
 | 5,_=>exact ⟨⟨#[97,47]⟩,by simp [texts],rfl⟩
 | 6,_=>exact ⟨⟨#[47]⟩,by simp [texts],rfl⟩
 | 7,_=>exact ⟨⟨#[]⟩,by simp [texts],rfl⟩
 | 8,_=>exact ⟨⟨#[120,47,121]⟩,by simp [texts],rfl⟩
 | 9,_=>exact ⟨⟨#[46,46,47,46,46,47,97,47,108]⟩,by simp [texts],rfl⟩
theorem ta_start (w:World) (A:Array Value):TA w ((w.alloc (.cells A 52)).alloc (.cells #[Value.int IntKind.i64 0,Value.int IntKind.i64 0,Value.int IntKind.i64 0,Value.int IntKind.i64 0,Value.string { data:=#[] },Value.string { data:=#[] },Value.int IntKind.i64 0,Value.int IntKind.i64 0,Value.int IntKind.i64 0,Value.int IntKind.i64 0,Value.int IntKind.i64 0,Value.int IntKind.i64 0,Value.int IntKind.i64 0,Value.int IntKind.i64 0,Value.int IntKind.i64 0] 52)) w.heap.size A [] :=
 ⟨(Below.heap_alloc _ _ _ (by simp)).trans (heap_alloc_new w _),by have:=heap_alloc_new (w.alloc (.cells A 52)) (.cells #[Value.int IntKind.i64 0,Value.int IntKind.i64 0,Value.int IntKind.i64 0,Value.int IntKind.i64 0,Value.string { data:=#[] },Value.string { data:=#[] },Value.int IntKind.i64 0,Value.int IntKind.i64 0,Value.int IntKind.i64 0,Value.int IntKind.i64 0,Value.int IntKind.i64 0,Value.int IntKind.i64 0,Value.int IntKind.i64 0,Value.int IntKind.i64 0,Value.int IntKind.i64 0] 52);simpa using this,((Below.refl _ w).alloc (Nat.le_refl _) _).alloc (by simp) _,by simp⟩
structure Tm (x:Ac):Prop where
 kind:1≤x.kind∧x.kind≤8
 dir:1≤x.dir∧x.dir≤7
 tq:1≤x.tq∧x.tq≤7
 am:0≤x.am∧x.am≤2
 an:1≤x.an∧x.an≤7
 s:Nam x.s
 ad:(x.kind≠1∧Nam x.ad) ∨ (x.kind=1∧1≤x.kd∧x.kd≤3∧((x.kd≠3∧x.ad=⟨#[]⟩) ∨ (x.kd=3∧x.ad ∈ texts)))
structure Ac.Wd (x:Ac):Prop where
 kind:Iw x.kind
 dir:Iw x.dir
 tq:Iw x.tq
 n:Iw x.n
 kd:Iw x.kd
 mo:Iw x.mo
 ui:Iw x.ui
 gi:Iw x.gi
 am:Iw x.am
 an:Iw x.an
 s:x.s.size≤9223372036854775807
 ad:x.ad.size≤9223372036854775807
theorem nam_size {s:ByteArray} (h:Nam s):s.size≤100000:=by rcases h with rfl | rfl | rfl | rfl <;> decide
theorem text_size {s:ByteArray} (h:s ∈ texts):s.size≤100000:=by
 simp only [texts,List.mem_cons,List.not_mem_nil,or_false] at h
 rcases h with rfl | rfl | rfl | rfl | rfl | rfl | rfl | rfl | rfl | rfl <;> decide
theorem tm_ok (x:Ac) (h1:1≤x.dir∧x.dir≤7) (h2:1≤x.tq∧x.tq≤7) (h3:1≤x.an∧x.an≤7) (h4:x.s.size≤100000) (h5:x.ad.size≤100000):x.Ok:=⟨wf_of (by omega),wf_of (by omega),wf_of (by omega),h4,h5⟩
theorem tame_any (x:Ac) (hx:x.Wd) (w:World) :
  Calls Tryz.prog 34 #[x.v] w fun e w'=>∃ x':Ac,e=.returned x'.v∧Hid (Tm x'∧x'.Ok∧Below w.heap.size w w'):=by
 obtain ⟨⟨hk1,hk2⟩,⟨hd1,hd2⟩,⟨ht1,ht2⟩,⟨hn1,hn2⟩,⟨hq1,hq2⟩,⟨hm1,hm2⟩,⟨hu1,hu2⟩,⟨hg1,hg2⟩,⟨ha1,ha2⟩,⟨hb1,hb2⟩,hs1,hs2⟩:=hx
 obtain ⟨kind,dir,tq,n,s,ad,sn,kd,mo,ui,gi,li,si,am,an⟩:=x
 simp only at hk1 hk2 hd1 hd2 ht1 ht2 hn1 hn2 hq1 hq2 hm1 hm2 hu1 hu2 hg1 hg2 ha1 ha2 hb1 hb2 hs1 hs2
 simp only [Ac.v,Ac.cs]
 have HSm:=hide small_any
 have J0:=ta_start w #[I kind,I dir,I tq,I n,.string s,.string ad,I sn,I kd,I mo,I ui,I gi,I li,I si,I am,I an]
 generalize hW0:((w.alloc (.cells #[I kind,I dir,I tq,I n,.string s,.string ad,I sn,I kd,I mo,I ui,I gi,I li,I si,I am,I an] 52)).alloc (.cells #[Value.int IntKind.i64 0,Value.int IntKind.i64 0,Value.int IntKind.i64 0,Value.int IntKind.i64 0,Value.string { data:=#[] },Value.string { data:=#[] },Value.int IntKind.i64 0,Value.int IntKind.i64 0,Value.int IntKind.i64 0,Value.int IntKind.i64 0,Value.int IntKind.i64 0,Value.int IntKind.i64 0,Value.int IntKind.i64 0,Value.int IntKind.i64 0,Value.int IntKind.i64 0] 52))=W0 at J0
 generalize hp:w.heap.size=p at J0
 have J00:=J0.row #[Value.string nA,Value.string nB,Value.string nC,Value.string nL]
 generalize hV0:W0.alloc (Obj.cells #[Value.string nA,Value.string nB,Value.string nC,Value.string nL] 9)=V0 at J00
 generalize hG1:W0.heap.size=g1 at J00
 obtain ⟨ua0,ua1,ua2,ua3,ua4,ua5,ua6,ua7,ua8,ua9,ua10,ua11,ua12,ua13,ua14,uaf⟩:=cells15 J00.x
 have HJ0:=hide J00
 clear J0 J00
 go_enter Tryz.func34,Tryz.ntmps34
 go_wp2_with fail
 clear hW0 hV0 hG1
 refine (unhide HSm kind 8 _ hk1 hk2 (by decide) (by decide)).mono ?_
 rintro e w' ⟨r0,rfl,hr0,rfl⟩
 have hr00:(0:Int)≤(r0:Int):=by omega
 have J0:=(unhide HJ0).set 0 (I (1 + (r0:Int)))
 generalize hW0:World.setCell _ ⟨p,0,none⟩ (I (1 + (r0:Int)))=W0 at J0
 simp only [List.setIfInBounds_toArray,List.set_cons_zero] at J0
 clear HJ0
 obtain ⟨u0_0,u0_1,u0_2,u0_3,u0_4,u0_5,u0_6,u0_7,u0_8,u0_9,u0_10,u0_11,u0_12,u0_13,u0_14,u0_f⟩:=cells15 J0.x
 have HJ0:=hide J0
 clear J0
 go_wp2_with fail
 clear hW0
 clear ua0 ua1 ua2 ua3 ua4 ua5 ua6 ua7 ua8 ua9 ua10 ua11 ua12 ua13 ua14 uaf
 refine (unhide HSm dir 7 _ hd1 hd2 (by decide) (by decide)).mono ?_
 rintro e w' ⟨r1,rfl,hr1,rfl⟩
 have hr10:(0:Int)≤(r1:Int):=by omega
 have J1:=(unhide HJ0).set 1 (I (1 + (r1:Int)))
 generalize hW1:World.setCell _ ⟨p,1,none⟩ (I (1 + (r1:Int)))=W1 at J1
 simp only [List.setIfInBounds_toArray,List.set_cons_succ,List.set_cons_zero] at J1
 clear HJ0
 obtain ⟨u1_0,u1_1,u1_2,u1_3,u1_4,u1_5,u1_6,u1_7,u1_8,u1_9,u1_10,u1_11,u1_12,u1_13,u1_14,u1_f⟩:=cells15 J1.x
 have HJ1:=hide J1
 clear J1
 go_wp2_with fail
 clear hW1
 clear u0_0 u0_1 u0_2 u0_3 u0_4 u0_5 u0_6 u0_7 u0_8 u0_9 u0_10 u0_11 u0_12 u0_13 u0_14 u0_f
 refine (unhide HSm tq 7 _ ht1 ht2 (by decide) (by decide)).mono ?_
 rintro e w' ⟨r2,rfl,hr2,rfl⟩
 have hr20:(0:Int)≤(r2:Int):=by omega
 have J2:=(unhide HJ1).set 2 (I (1 + (r2:Int)))
 generalize hW2:World.setCell _ ⟨p,2,none⟩ (I (1 + (r2:Int)))=W2 at J2
 simp only [List.setIfInBounds_toArray,List.set_cons_succ,List.set_cons_zero] at J2
 clear HJ1
 obtain ⟨u2_0,u2_1,u2_2,u2_3,u2_4,u2_5,u2_6,u2_7,u2_8,u2_9,u2_10,u2_11,u2_12,u2_13,u2_14,u2_f⟩:=cells15 J2.x
 have HJ2:=hide J2
 clear J2
 go_wp2_with fail
 clear hW2
 clear u1_0 u1_1 u1_2 u1_3 u1_4 u1_5 u1_6 u1_7 u1_8 u1_9 u1_10 u1_11 u1_12 u1_13 u1_14 u1_f
 refine (unhide HSm (s.size:Int) 4 _ (by omega) (by omega) (by decide) (by decide)).mono ?_
 rintro e w' ⟨r3,rfl,hr3,rfl⟩
 have hr30:(0:Int)≤(r3:Int):=by omega
 obtain ⟨s',hs',gc⟩:=(unhide HJ2).name (g:=g1) (by simp) r3 hr3
 have gc0:w'.cell? ⟨g1,0 + r3,none⟩=some (.string s'):=by rw [Nat.zero_add];exact gc
 have HS:=hide hs'
 clear hs'
 have J3:=(unhide HJ2).set 4 (.string s')
 generalize hW3:World.setCell _ ⟨p,4,none⟩ (.string s')=W3 at J3
 simp only [List.setIfInBounds_toArray,List.set_cons_succ,List.set_cons_zero] at J3
 clear HJ2
 obtain ⟨u3_0,u3_1,u3_2,u3_3,u3_4,u3_5,u3_6,u3_7,u3_8,u3_9,u3_10,u3_11,u3_12,u3_13,u3_14,u3_f⟩:=cells15 J3.x
 have HJ3:=hide J3
 clear J3
 have K4:=(unhide HJ3).row #[Value.string ⟨#[97]⟩,Value.string ⟨#[46,46,47,98]⟩,Value.string ⟨#[47,97,47,98]⟩,Value.string ⟨#[108]⟩,Value.string ⟨#[46]⟩,Value.string ⟨#[97,47]⟩,Value.string ⟨#[47]⟩,Value.string ⟨#[]⟩,Value.string ⟨#[120,47,121]⟩,Value.string ⟨#[46,46,47,46,46,47,97,47,108]⟩]
 generalize hV4:World.alloc W3 (Obj.cells #[Value.string ⟨#[97]⟩,Value.string ⟨#[46,46,47,98]⟩,Value.string ⟨#[47,97,47,98]⟩,Value.string ⟨#[108]⟩,Value.string ⟨#[46]⟩,Value.string ⟨#[97,47]⟩,Value.string ⟨#[47]⟩,Value.string ⟨#[]⟩,Value.string ⟨#[120,47,121]⟩,Value.string ⟨#[46,46,47,46,46,47,97,47,108]⟩] 9)=V4 at K4
 generalize hG2:W3.heap.size=g2 at K4
 clear HJ3
 obtain ⟨u4_0,u4_1,u4_2,u4_3,u4_4,u4_5,u4_6,u4_7,u4_8,u4_9,u4_10,u4_11,u4_12,u4_13,u4_14,u4_f⟩:=cells15 K4.x
 have HJ4:=hide K4
 clear K4
 go_wp2_with fail
 clear hW3 hV4 hG2 gc gc0
 clear u2_0 u2_1 u2_2 u2_3 u2_4 u2_5 u2_6 u2_7 u2_8 u2_9 u2_10 u2_11 u2_12 u2_13 u2_14 u2_f
 clear u3_0 u3_1 u3_2 u3_3 u3_4 u3_5 u3_6 u3_7 u3_8 u3_9 u3_10 u3_11 u3_12 u3_13 u3_14 u3_f
 refine (unhide HSm (ad.size:Int) 4 _ (by omega) (by omega) (by decide) (by decide)).mono ?_
 rintro e w' ⟨r4,rfl,hr4,rfl⟩
 have hr40:(0:Int)≤(r4:Int):=by omega
 obtain ⟨a',ha',gd⟩:=(unhide HJ4).name (g:=g1) (by simp) r4 hr4
 have gd0:w'.cell? ⟨g1,0 + r4,none⟩=some (.string a'):=by rw [Nat.zero_add];exact gd
 have HA:=hide ha'
 clear ha'
 have J5:=(unhide HJ4).set 5 (.string a')
 generalize hW5:World.setCell _ ⟨p,5,none⟩ (.string a')=W5 at J5
 simp only [List.setIfInBounds_toArray,List.set_cons_succ,List.set_cons_zero] at J5
 clear HJ4
 obtain ⟨u5_0,u5_1,u5_2,u5_3,u5_4,u5_5,u5_6,u5_7,u5_8,u5_9,u5_10,u5_11,u5_12,u5_13,u5_14,u5_f⟩:=cells15 J5.x
 have HJ5:=hide J5
 clear J5
 go_upto_if 42 with fail
 clear hW5
 clear u4_0 u4_1 u4_2 u4_3 u4_4 u4_5 u4_6 u4_7 u4_8 u4_9 u4_10 u4_11 u4_12 u4_13 u4_14 u4_f
 clear gd gd0
 go_cut [] from 43 to 79 (fun wc=>∃ (a9:ByteArray) (kd9 mo9 ui9 gi9:Int),((r0≠0∧Nam a9) ∨ (r0=0∧1≤kd9∧kd9≤3∧((kd9≠3∧a9=⟨#[]⟩) ∨ (kd9=3∧a9 ∈ texts))))∧TA w wc p #[I (1 + (r0:Int)),I (1 + (r1:Int)),I (1 + (r2:Int)),I n,.string s',.string a9,I sn,I kd9,I mo9,I ui9,I gi9,I li,I si,I am,I an] [(g2,#[Value.string ⟨#[97]⟩,Value.string ⟨#[46,46,47,98]⟩,Value.string ⟨#[47,97,47,98]⟩,Value.string ⟨#[108]⟩,Value.string ⟨#[46]⟩,Value.string ⟨#[97,47]⟩,Value.string ⟨#[47]⟩,Value.string ⟨#[]⟩,Value.string ⟨#[120,47,121]⟩,Value.string ⟨#[46,46,47,46,46,47,97,47,108]⟩]),(g1,#[Value.string nA,Value.string nB,Value.string nC,Value.string nL])])
 case first =>
  by_cases h0:r0=0
  ·subst h0
   go_wp2_with fail
   refine (unhide HSm kd 3 _ hq1 hq2 (by decide) (by decide)).mono ?_
   rintro e w' ⟨r5,rfl,hr5,rfl⟩
   have hr50:(0:Int)≤(r5:Int):=by omega
   by_cases h2:r5=2
   ·subst h2
    have J6:=(unhide HJ5).set 7 (I 3)
    generalize hW6:World.setCell _ ⟨p,7,none⟩ (I 3)=W6 at J6
    simp only [List.setIfInBounds_toArray,List.set_cons_succ,List.set_cons_zero] at J6
    clear HJ5
    obtain ⟨u6_0,u6_1,u6_2,u6_3,u6_4,u6_5,u6_6,u6_7,u6_8,u6_9,u6_10,u6_11,u6_12,u6_13,u6_14,u6_f⟩:=cells15 J6.x
    have HJ6:=hide J6
    clear J6
    have J7:=(unhide HJ6).set 5 (.string ⟨#[]⟩)
    generalize hW7:World.setCell _ ⟨p,5,none⟩ (.string ⟨#[]⟩)=W7 at J7
    simp only [List.setIfInBounds_toArray,List.set_cons_succ,List.set_cons_zero] at J7
    clear HJ6
    obtain ⟨u7_0,u7_1,u7_2,u7_3,u7_4,u7_5,u7_6,u7_7,u7_8,u7_9,u7_10,u7_11,u7_12,u7_13,u7_14,u7_f⟩:=cells15 J7.x
    have HJ7:=hide J7
    clear J7
    go_wp2_with fail
    clear hW6
    clear hW7
    clear u6_0 u6_1 u6_2 u6_3 u6_4 u6_5 u6_6 u6_7 u6_8 u6_9 u6_10 u6_11 u6_12 u6_13 u6_14 u6_f
    refine (unhide HSm (ad.size:Int) 10 _ (by omega) (by omega) (by decide) (by decide)).mono ?_
    rintro e w' ⟨r6,rfl,hr6,rfl⟩
    have hr60:(0:Int)≤(r6:Int):=by omega
    obtain ⟨e',he',gf⟩:=(unhide HJ7).text (g:=g2) (by simp) r6 hr6
    have gf0:=gf
    rw [show (r6:Nat)=0 + r6 by omega] at gf0
    have HE:=hide he'
    clear he'
    have J8:=(unhide HJ7).set 5 (.string e')
    generalize hW8:World.setCell _ ⟨p,5,none⟩ (.string e')=W8 at J8
    simp only [List.setIfInBounds_toArray,List.set_cons_succ,List.set_cons_zero] at J8
    clear HJ7
    obtain ⟨u8_0,u8_1,u8_2,u8_3,u8_4,u8_5,u8_6,u8_7,u8_8,u8_9,u8_10,u8_11,u8_12,u8_13,u8_14,u8_f⟩:=cells15 J8.x
    have HJ8:=hide J8
    clear J8
    by_cases hmm:mo.tmod 4=0
    ·have hm3:(mo.tmod 4 == 0)=true:=by simpa using hmm
     have hm4:(mo.tmod 4 != 0)=false:=by simpa using hmm
     go_wp2_with fail
     refine (unhide HSm ui 3 _ hu1 hu2 (by decide) (by decide)).mono ?_
     rintro e w' ⟨r7,rfl,hr7,rfl⟩
     have hr70:(0:Int)≤(r7:Int):=by omega
     have J9:=(unhide HJ8).set 9 (I (r7:Int))
     generalize hW9:World.setCell _ ⟨p,9,none⟩ (I (r7:Int))=W9 at J9
     simp only [List.setIfInBounds_toArray,List.set_cons_succ,List.set_cons_zero] at J9
     clear HJ8
     obtain ⟨u9_0,u9_1,u9_2,u9_3,u9_4,u9_5,u9_6,u9_7,u9_8,u9_9,u9_10,u9_11,u9_12,u9_13,u9_14,u9_f⟩:=cells15 J9.x
     have HJ9:=hide J9
     clear J9
     go_wp2_with fail
     clear hW9
     clear u8_0 u8_1 u8_2 u8_3 u8_4 u8_5 u8_6 u8_7 u8_8 u8_9 u8_10 u8_11 u8_12 u8_13 u8_14 u8_f
     refine (unhide HSm gi 3 _ hg1 hg2 (by decide) (by decide)).mono ?_
     rintro e w' ⟨r8,rfl,hr8,rfl⟩
     have hr80:(0:Int)≤(r8:Int):=by omega
     have J10:=(unhide HJ9).set 10 (I (r8:Int))
     generalize hW10:World.setCell _ ⟨p,10,none⟩ (I (r8:Int))=W10 at J10
     simp only [List.setIfInBounds_toArray,List.set_cons_succ,List.set_cons_zero] at J10
     clear HJ9
     obtain ⟨u10_0,u10_1,u10_2,u10_3,u10_4,u10_5,u10_6,u10_7,u10_8,u10_9,u10_10,u10_11,u10_12,u10_13,u10_14,u10_f⟩:=cells15 J10.x
     have HJ10:=hide J10
     clear J10
     go_wp2_with fail
     go_meet
     case rel=>exact ⟨_,_,_,_,_,.inr ⟨by first | rfl | trivial,by omega,by omega,.inr ⟨by first | rfl | trivial | omega,unhide HE⟩⟩,unhide HJ10⟩
    ·have hm3:(mo.tmod 4 == 0)=false:=by simpa using hmm
     have hm4:(mo.tmod 4 != 0)=true:=by simpa using hmm
     have J11:=(unhide HJ8).set 8 (I 493)
     generalize hW11:World.setCell _ ⟨p,8,none⟩ (I 493)=W11 at J11
     simp only [List.setIfInBounds_toArray,List.set_cons_succ,List.set_cons_zero] at J11
     clear HJ8
     obtain ⟨u11_0,u11_1,u11_2,u11_3,u11_4,u11_5,u11_6,u11_7,u11_8,u11_9,u11_10,u11_11,u11_12,u11_13,u11_14,u11_f⟩:=cells15 J11.x
     have HJ11:=hide J11
     clear J11
     go_wp2_with fail
     clear hW11
     clear u8_0 u8_1 u8_2 u8_3 u8_4 u8_5 u8_6 u8_7 u8_8 u8_9 u8_10 u8_11 u8_12 u8_13 u8_14 u8_f
     refine (unhide HSm ui 3 _ hu1 hu2 (by decide) (by decide)).mono ?_
     rintro e w' ⟨r7,rfl,hr7,rfl⟩
     have hr70:(0:Int)≤(r7:Int):=by omega
     have J12:=(unhide HJ11).set 9 (I (r7:Int))
     generalize hW12:World.setCell _ ⟨p,9,none⟩ (I (r7:Int))=W12 at J12
     simp only [List.setIfInBounds_toArray,List.set_cons_succ,List.set_cons_zero] at J12
     clear HJ11
     obtain ⟨u12_0,u12_1,u12_2,u12_3,u12_4,u12_5,u12_6,u12_7,u12_8,u12_9,u12_10,u12_11,u12_12,u12_13,u12_14,u12_f⟩:=cells15 J12.x
     have HJ12:=hide J12
     clear J12
     go_wp2_with fail
     clear hW12
     clear u11_0 u11_1 u11_2 u11_3 u11_4 u11_5 u11_6 u11_7 u11_8 u11_9 u11_10 u11_11 u11_12 u11_13 u11_14 u11_f
     refine (unhide HSm gi 3 _ hg1 hg2 (by decide) (by decide)).mono ?_
     rintro e w' ⟨r8,rfl,hr8,rfl⟩
     have hr80:(0:Int)≤(r8:Int):=by omega
     have J13:=(unhide HJ12).set 10 (I (r8:Int))
     generalize hW13:World.setCell _ ⟨p,10,none⟩ (I (r8:Int))=W13 at J13
     simp only [List.setIfInBounds_toArray,List.set_cons_succ,List.set_cons_zero] at J13
     clear HJ12
     obtain ⟨u13_0,u13_1,u13_2,u13_3,u13_4,u13_5,u13_6,u13_7,u13_8,u13_9,u13_10,u13_11,u13_12,u13_13,u13_14,u13_f⟩:=cells15 J13.x
     have HJ13:=hide J13
     clear J13
     go_wp2_with fail
     go_meet
     case rel=>exact ⟨_,_,_,_,_,.inr ⟨by first | rfl | trivial,by omega,by omega,.inr ⟨by first | rfl | trivial | omega,unhide HE⟩⟩,unhide HJ13⟩
   ·have h3:¬ ((1:Int) + (r5:Int)=3):=by omega
    have h4:((1:Int) + (r5:Int) == 3)=false:=by simpa using h3
    have J14:=(unhide HJ5).set 7 (I (1 + (r5:Int)))
    generalize hW14:World.setCell _ ⟨p,7,none⟩ (I (1 + (r5:Int)))=W14 at J14
    simp only [List.setIfInBounds_toArray,List.set_cons_succ,List.set_cons_zero] at J14
    clear HJ5
    obtain ⟨u14_0,u14_1,u14_2,u14_3,u14_4,u14_5,u14_6,u14_7,u14_8,u14_9,u14_10,u14_11,u14_12,u14_13,u14_14,u14_f⟩:=cells15 J14.x
    have HJ14:=hide J14
    clear J14
    have J15:=(unhide HJ14).set 5 (.string ⟨#[]⟩)
    generalize hW15:World.setCell _ ⟨p,5,none⟩ (.string ⟨#[]⟩)=W15 at J15
    simp only [List.setIfInBounds_toArray,List.set_cons_succ,List.set_cons_zero] at J15
    clear HJ14
    obtain ⟨u15_0,u15_1,u15_2,u15_3,u15_4,u15_5,u15_6,u15_7,u15_8,u15_9,u15_10,u15_11,u15_12,u15_13,u15_14,u15_f⟩:=cells15 J15.x
    have HJ15:=hide J15
    clear J15
    by_cases hmm:mo.tmod 4=0
    ·have hm3:(mo.tmod 4 == 0)=true:=by simpa using hmm
     have hm4:(mo.tmod 4 != 0)=false:=by simpa using hmm
     go_wp2_with fail
     refine (unhide HSm ui 3 _ hu1 hu2 (by decide) (by decide)).mono ?_
     rintro e w' ⟨r7,rfl,hr7,rfl⟩
     have hr70:(0:Int)≤(r7:Int):=by omega
     have J16:=(unhide HJ15).set 9 (I (r7:Int))
     generalize hW16:World.setCell _ ⟨p,9,none⟩ (I (r7:Int))=W16 at J16
     simp only [List.setIfInBounds_toArray,List.set_cons_succ,List.set_cons_zero] at J16
     clear HJ15
     obtain ⟨u16_0,u16_1,u16_2,u16_3,u16_4,u16_5,u16_6,u16_7,u16_8,u16_9,u16_10,u16_11,u16_12,u16_13,u16_14,u16_f⟩:=cells15 J16.x
     have HJ16:=hide J16
     clear J16
     go_wp2_with fail
     clear hW16
     clear u15_0 u15_1 u15_2 u15_3 u15_4 u15_5 u15_6 u15_7 u15_8 u15_9 u15_10 u15_11 u15_12 u15_13 u15_14 u15_f
     refine (unhide HSm gi 3 _ hg1 hg2 (by decide) (by decide)).mono ?_
     rintro e w' ⟨r8,rfl,hr8,rfl⟩
     have hr80:(0:Int)≤(r8:Int):=by omega
     have J17:=(unhide HJ16).set 10 (I (r8:Int))
     generalize hW17:World.setCell _ ⟨p,10,none⟩ (I (r8:Int))=W17 at J17
     simp only [List.setIfInBounds_toArray,List.set_cons_succ,List.set_cons_zero] at J17
     clear HJ16
     obtain ⟨u17_0,u17_1,u17_2,u17_3,u17_4,u17_5,u17_6,u17_7,u17_8,u17_9,u17_10,u17_11,u17_12,u17_13,u17_14,u17_f⟩:=cells15 J17.x
     have HJ17:=hide J17
     clear J17
     go_wp2_with fail
     go_meet
     case rel=>exact ⟨_,_,_,_,_,.inr ⟨by first | rfl | trivial,by omega,by omega,.inl ⟨by omega,by first | rfl | trivial⟩⟩,unhide HJ17⟩
    ·have hm3:(mo.tmod 4 == 0)=false:=by simpa using hmm
     have hm4:(mo.tmod 4 != 0)=true:=by simpa using hmm
     have J18:=(unhide HJ15).set 8 (I 493)
     generalize hW18:World.setCell _ ⟨p,8,none⟩ (I 493)=W18 at J18
     simp only [List.setIfInBounds_toArray,List.set_cons_succ,List.set_cons_zero] at J18
     clear HJ15
     obtain ⟨u18_0,u18_1,u18_2,u18_3,u18_4,u18_5,u18_6,u18_7,u18_8,u18_9,u18_10,u18_11,u18_12,u18_13,u18_14,u18_f⟩:=cells15 J18.x
     have HJ18:=hide J18
     clear J18
     go_wp2_with fail
     clear hW18
     clear u15_0 u15_1 u15_2 u15_3 u15_4 u15_5 u15_6 u15_7 u15_8 u15_9 u15_10 u15_11 u15_12 u15_13 u15_14 u15_f
     refine (unhide HSm ui 3 _ hu1 hu2 (by decide) (by decide)).mono ?_
     rintro e w' ⟨r7,rfl,hr7,rfl⟩
     have hr70:(0:Int)≤(r7:Int):=by omega
     have J19:=(unhide HJ18).set 9 (I (r7:Int))
     generalize hW19:World.setCell _ ⟨p,9,none⟩ (I (r7:Int))=W19 at J19
     simp only [List.setIfInBounds_toArray,List.set_cons_succ,List.set_cons_zero] at J19
     clear HJ18
     obtain ⟨u19_0,u19_1,u19_2,u19_3,u19_4,u19_5,u19_6,u19_7,u19_8,u19_9,u19_10,u19_11,u19_12,u19_13,u19_14,u19_f⟩:=cells15 J19.x
     have HJ19:=hide J19
     clear J19
     go_wp2_with fail
     clear hW19
     clear u18_0 u18_1 u18_2 u18_3 u18_4 u18_5 u18_6 u18_7 u18_8 u18_9 u18_10 u18_11 u18_12 u18_13 u18_14 u18_f
     refine (unhide HSm gi 3 _ hg1 hg2 (by decide) (by decide)).mono ?_
     rintro e w' ⟨r8,rfl,hr8,rfl⟩
     have hr80:(0:Int)≤(r8:Int):=by omega
     have J20:=(unhide HJ19).set 10 (I (r8:Int))
     generalize hW20:World.setCell _ ⟨p,10,none⟩ (I (r8:Int))=W20 at J20
     simp only [List.setIfInBounds_toArray,List.set_cons_succ,List.set_cons_zero] at J20
     clear HJ19
     obtain ⟨u20_0,u20_1,u20_2,u20_3,u20_4,u20_5,u20_6,u20_7,u20_8,u20_9,u20_10,u20_11,u20_12,u20_13,u20_14,u20_f⟩:=cells15 J20.x
     have HJ20:=hide J20
     clear J20
     go_wp2_with fail
     go_meet
     case rel=>exact ⟨_,_,_,_,_,.inr ⟨by first | rfl | trivial,by omega,by omega,.inl ⟨by omega,by first | rfl | trivial⟩⟩,unhide HJ20⟩
  ·have h3:¬ ((1:Int) + (r0:Int)=1):=by omega
   have h4:((1:Int) + (r0:Int) == 1)=false:=by simpa using h3
   go_wp2_with fail
   go_meet
   case rel=>exact ⟨_,_,_,_,_,.inl ⟨h0,unhide HA⟩,unhide HJ5⟩
 case rest =>
  obtain ⟨a9,kd9,mo9,ui9,gi9,hF,J⟩:=hcut
  clear HJ5
  clear u5_0 u5_1 u5_2 u5_3 u5_4 u5_5 u5_6 u5_7 u5_8 u5_9 u5_10 u5_11 u5_12 u5_13 u5_14 u5_f
  have HF:=hide hF
  clear hF
  obtain ⟨uy0,uy1,uy2,uy3,uy4,uy5,uy6,uy7,uy8,uy9,uy10,uy11,uy12,uy13,uy14,uyf⟩:=cells15 J.x
  have HJy:=hide J
  clear J
  go_upto_region 18 with fail
  have uf13:=uyf 13
  have uf14:=uyf 14
  clear uy0 uy1 uy2 uy3 uy4 uy5 uy6 uy7 uy8 uy9 uy10 uy11 uy12 uyf hk1 hk2 hd1 hd2 ht1 ht2 hq1 hq2 hm1 hm2 hu1 hu2 hg1 hg2 hs1 hs2
  go_cut [] from 80 to 90 (fun wc=>∃ ra rb:Nat,(ra:Int) < 3∧(rb:Int) < 7∧TA w wc p #[I (1 + (r0:Int)),I (1 + (r1:Int)),I (1 + (r2:Int)),I n,.string s',.string a9,I sn,I kd9,I mo9,I ui9,I gi9,I li,I si,I (ra:Int),I (1 + (rb:Int))] [(g2,#[Value.string ⟨#[97]⟩,Value.string ⟨#[46,46,47,98]⟩,Value.string ⟨#[47,97,47,98]⟩,Value.string ⟨#[108]⟩,Value.string ⟨#[46]⟩,Value.string ⟨#[97,47]⟩,Value.string ⟨#[47]⟩,Value.string ⟨#[]⟩,Value.string ⟨#[120,47,121]⟩,Value.string ⟨#[46,46,47,46,46,47,97,47,108]⟩]),(g1,#[Value.string nA,Value.string nB,Value.string nC,Value.string nL])])
  case first =>
   go_region_with (first
    | (go_at_call_of 106 (I am);refine (unhide HSm am 3 _ ha1 ha2 (by decide) (by decide)).mono ?_;rintro e w' ⟨ra,rfl,hra,rfl⟩;have hra0:(0:Int)≤(ra:Int):=by omega)
    | (go_at_call_of 106 (I an);refine (unhide HSm an 7 _ hb1 hb2 (by decide) (by decide)).mono ?_;rintro e w' ⟨rb,rfl,hrb,rfl⟩;have hrb0:(0:Int)≤(rb:Int):=by omega))
   all_goals
    go_wp2_with fail
    go_meet
    case rel =>
     refine ⟨ra,rb,hra,hrb,?_⟩
     have J9:=((unhide HJy).drew.set 13 (I (ra:Int))).set 14 (I (1 + (rb:Int)))
     simp only [List.setIfInBounds_toArray,List.set_cons_succ,List.set_cons_zero] at J9
     have J9d:=(((unhide HJy).set 13 (I (ra:Int))).set 14 (I (1 + (rb:Int)))).drew
     simp only [List.setIfInBounds_toArray,List.set_cons_succ,List.set_cons_zero] at J9d
     have hwr:IntKind.i64.wrap (1 + (rb:Int))=1 + (rb:Int):=by rw [IntKind.wrap_i64];omega
     rw [hwr]
     first | exact J9d | exact J9
  case rest =>
   obtain ⟨ra,rb,hra,hrb,J⟩:=hcut
   clear HJy
   clear uy13 uy14 uf13 uf14
   obtain ⟨uv0,uv1,uv2,uv3,uv4,uv5,uv6,uv7,uv8,uv9,uv10,uv11,uv12,uv13,uv14,uvf⟩:=cells15 J.x
   obtain ⟨uz0,uz1,uz2,uz3,uz4,uz5,uz6,uz7,uz8,uz9,uz10,uz11,uz12,uz13,uz14,uzf⟩:=cells15 J.z
   have HJv:=hide J
   clear J
   by_cases h6:r0=6
   ·subst h6
    go_wp2_with fail
    refine (unhide HSm n 5 _ hn1 hn2 (by decide) (by decide)).mono ?_
    rintro e w' ⟨rn,rfl,hrn,rfl⟩
    have hrn0:(0:Int)≤(rn:Int):=by omega
    have J21:=(unhide HJv).set 3 (I (rn:Int))
    generalize hW21:World.setCell _ ⟨p,3,none⟩ (I (rn:Int))=W21 at J21
    simp only [List.setIfInBounds_toArray,List.set_cons_succ,List.set_cons_zero] at J21
    clear HJv
    obtain ⟨u21_0,u21_1,u21_2,u21_3,u21_4,u21_5,u21_6,u21_7,u21_8,u21_9,u21_10,u21_11,u21_12,u21_13,u21_14,u21_f⟩:=cells15 J21.x
    have HJ21:=hide J21
    clear J21
    obtain ⟨uq0,uq1,uq2,uq3,uq4,uq5,uq6,uq7,uq8,uq9,uq10,uq11,uq12,uq13,uq14,uqf⟩:=cells15 (unhide HJ21).z
    go_wp2_with fail
    have hXR:=put15 (v0:=I 7) (v1:=I (1 + (r1:Int))) (v2:=I (1 + (r2:Int))) (v3:=I (rn:Int)) (v4:=.string s') (v5:=.string a9) (v6:=I sn) (v7:=I kd9) (v8:=I mo9) (v9:=I ui9) (v10:=I gi9) (v11:=I li) (v12:=I si) (v13:=I (ra:Int)) (v14:=I (1 + (rb:Int))) (unhide HJ21).z
    have hXB:=put15b (v0:=I 7) (v1:=I (1 + (r1:Int))) (v2:=I (1 + (r2:Int))) (v3:=I (rn:Int)) (v4:=.string s') (v5:=.string a9) (v6:=I sn) (v7:=I kd9) (v8:=I mo9) (v9:=I ui9) (v10:=I gi9) (v11:=I li) (v12:=I si) (v13:=I (ra:Int)) (v14:=I (1 + (rb:Int))) (Nat.le_succ _) (unhide HJ21).b
    generalize hX:(World.setCell (World.setCell (World.setCell (World.setCell (World.setCell (World.setCell (World.setCell (World.setCell (World.setCell (World.setCell (World.setCell (World.setCell (World.setCell (World.setCell (World.setCell _ ⟨p + 1,0,none⟩ (I 7)) ⟨p + 1,1,none⟩ (I (1 + (r1:Int)))) ⟨p + 1,2,none⟩ (I (1 + (r2:Int)))) ⟨p + 1,3,none⟩ (I (rn:Int))) ⟨p + 1,4,none⟩ (.string s')) ⟨p + 1,5,none⟩ (.string a9)) ⟨p + 1,6,none⟩ (I sn)) ⟨p + 1,7,none⟩ (I kd9)) ⟨p + 1,8,none⟩ (I mo9)) ⟨p + 1,9,none⟩ (I ui9)) ⟨p + 1,10,none⟩ (I gi9)) ⟨p + 1,11,none⟩ (I li)) ⟨p + 1,12,none⟩ (I si)) ⟨p + 1,13,none⟩ (I (ra:Int))) ⟨p + 1,14,none⟩ (I (1 + (rb:Int))))=X at hXR hXB ⊢
    obtain ⟨ux0,ux1,ux2,ux3,ux4,ux5,ux6,ux7,ux8,ux9,ux10,ux11,ux12,ux13,ux14,uxf⟩:=cells15 hXR
    clear hX
    refine bodyPost_ret (v:=.agg #[I 7,I (1 + (r1:Int)),I (1 + (r2:Int)),I (rn:Int),.string s',.string a9,I sn,I kd9,I mo9,I ui9,I gi9,I li,I si,I (ra:Int),I (1 + (rb:Int))]) ?_ rfl ⟨⟨7,1 + (r1:Int),1 + (r2:Int),(rn:Int),s',a9,sn,kd9,mo9,ui9,gi9,li,si,(ra:Int),1 + (rb:Int)⟩,rfl,hide ⟨⟨by simp only;omega,by simp only;omega,by simp only;omega,by simp only;omega,by simp only;omega,unhide HS,?_⟩,?_,by first | exact hXB | (rw [hp];exact hXB)⟩⟩
    ·simp [results,Tryz.results34,go_sem,ux0,ux1,ux2,ux3,ux4,ux5,ux6,ux7,ux8,ux9,ux10,ux11,ux12,ux13,ux14]
    ·rcases unhide HF with ⟨h1,h2⟩ | ⟨h1,h2⟩
     ·exact .inl ⟨by simp only;omega,h2⟩
     ·exact .inr ⟨by simp only;omega,h2⟩
    ·exact tm_ok _ (by simp only;omega) (by simp only;omega) (by simp only;omega) (nam_size (unhide HS)) (by
      rcases unhide HF with ⟨h1,h2⟩ | ⟨h1,h2,h3,⟨h4,h5⟩ | ⟨h4,h5⟩⟩
      ·exact nam_size h2
      ·simp only;rw [h5];decide
      ·exact text_size h5)
   ·have h7:¬ ((1:Int) + (r0:Int)=7):=by omega
    have h8:((1:Int) + (r0:Int) == 7)=false:=by simpa using h7
    go_wp2_with fail
    have hXR:=put15 (v0:=I (1 + (r0:Int))) (v1:=I (1 + (r1:Int))) (v2:=I (1 + (r2:Int))) (v3:=I n) (v4:=.string s') (v5:=.string a9) (v6:=I sn) (v7:=I kd9) (v8:=I mo9) (v9:=I ui9) (v10:=I gi9) (v11:=I li) (v12:=I si) (v13:=I (ra:Int)) (v14:=I (1 + (rb:Int))) (unhide HJv).z
    have hXB:=put15b (v0:=I (1 + (r0:Int))) (v1:=I (1 + (r1:Int))) (v2:=I (1 + (r2:Int))) (v3:=I n) (v4:=.string s') (v5:=.string a9) (v6:=I sn) (v7:=I kd9) (v8:=I mo9) (v9:=I ui9) (v10:=I gi9) (v11:=I li) (v12:=I si) (v13:=I (ra:Int)) (v14:=I (1 + (rb:Int))) (Nat.le_succ _) (unhide HJv).b
    generalize hX:(World.setCell (World.setCell (World.setCell (World.setCell (World.setCell (World.setCell (World.setCell (World.setCell (World.setCell (World.setCell (World.setCell (World.setCell (World.setCell (World.setCell (World.setCell _ ⟨p + 1,0,none⟩ (I (1 + (r0:Int)))) ⟨p + 1,1,none⟩ (I (1 + (r1:Int)))) ⟨p + 1,2,none⟩ (I (1 + (r2:Int)))) ⟨p + 1,3,none⟩ (I n)) ⟨p + 1,4,none⟩ (.string s')) ⟨p + 1,5,none⟩ (.string a9)) ⟨p + 1,6,none⟩ (I sn)) ⟨p + 1,7,none⟩ (I kd9)) ⟨p + 1,8,none⟩ (I mo9)) ⟨p + 1,9,none⟩ (I ui9)) ⟨p + 1,10,none⟩ (I gi9)) ⟨p + 1,11,none⟩ (I li)) ⟨p + 1,12,none⟩ (I si)) ⟨p + 1,13,none⟩ (I (ra:Int))) ⟨p + 1,14,none⟩ (I (1 + (rb:Int))))=X at hXR hXB ⊢
    obtain ⟨ux0,ux1,ux2,ux3,ux4,ux5,ux6,ux7,ux8,ux9,ux10,ux11,ux12,ux13,ux14,uxf⟩:=cells15 hXR
    clear hX
    refine bodyPost_ret (v:=.agg #[I (1 + (r0:Int)),I (1 + (r1:Int)),I (1 + (r2:Int)),I n,.string s',.string a9,I sn,I kd9,I mo9,I ui9,I gi9,I li,I si,I (ra:Int),I (1 + (rb:Int))]) ?_ rfl ⟨⟨1 + (r0:Int),1 + (r1:Int),1 + (r2:Int),n,s',a9,sn,kd9,mo9,ui9,gi9,li,si,(ra:Int),1 + (rb:Int)⟩,rfl,hide ⟨⟨by simp only;omega,by simp only;omega,by simp only;omega,by simp only;omega,by simp only;omega,unhide HS,?_⟩,?_,by first | exact hXB | (rw [hp];exact hXB)⟩⟩
    ·simp [results,Tryz.results34,go_sem,ux0,ux1,ux2,ux3,ux4,ux5,ux6,ux7,ux8,ux9,ux10,ux11,ux12,ux13,ux14]
    ·rcases unhide HF with ⟨h1,h2⟩ | ⟨h1,h2⟩
     ·exact .inl ⟨by simp only;omega,h2⟩
     ·exact .inr ⟨by simp only;omega,h2⟩
    ·exact tm_ok _ (by simp only;omega) (by simp only;omega) (by simp only;omega) (nam_size (unhide HS)) (by
      rcases unhide HF with ⟨h1,h2⟩ | ⟨h1,h2,h3,⟨h4,h5⟩ | ⟨h4,h5⟩⟩
      ·exact nam_size h2
      ·simp only;rw [h5];decide
      ·exact text_size h5)
attribute [local go_sem ↓] Go.wp_at_zero Go.wp_at_succ
section
variable {t m r R l0 l1 B:Nat} {K:Int} {w W W':World} {T T2:Tr} {M M2:Mt.T} {rs:List Mt.Rm}
theorem Bx.turn (s:Bx t m r R l0 l1 B K w W T T2 M M2 rs) {b:Nat} {cs:Array Value} {ty:TypeId} (hb:W.heap[b]?=some (.cells cs ty)) (ho:own ty) (F:Fr [b] W W') (hw:w.heap.size≤b):Bx t m r R l0 l1 B K w W' T T2 M M2 rs:=by
 have k:Ke (fun t=>t=ty) W W':=⟨F.size,fun b' cs' t' f' e ht=>(F.blk b' (lt_of_heap e) (by
  simp
  rintro rfl
  rw [hb] at e
  cases e
  exact ht rfl)).trans e⟩
 have hm:∀ (b':Nat) (es:Array MapEntry) (c:Nat),W.heap[b']?=some (.map es c)→W'.heap[b']?=W.heap[b']?:=fun b' es c e=>F.blk b' (lt_of_heap e) (by
  simp
  rintro rfl
  rw [hb] at e
  cases e)
 exact ⟨Tq_ke s.q k hm (fun t ht e=>ho.1 (by rw [← e];exact ht)),Dq_ke s.d k (fun t ht e=>ho.2.1 (by rw [← e];exact ht)),s.f,s.l,Ls_ke s.a k (fun t ht e=>ho.2.2.1 (by rw [← e];exact ht)),Rs_ke s.b k (fun t ht e=>ho.2.2.2 (by rw [← e];exact ht)),s.rt,s.mf,s.be.trans (F.base s.be.size (by simpa using hw)),s.le⟩
end
theorem new4 {w1 w2 w3 w4 V w:World} {t r:Nat} (h0:w.heap.size≤V.heap.size) (hb:Below w.heap.size w V) (h1:Tq V.heap.size 20 w1 t (Tr.new 40 20) 1) (b1:Below V.heap.size V w1) (h2:Rf.Dq w1.heap.size 20 w2 r (Tr.new 40 20)) (b2:Below w1.heap.size w1 w2)
  (h3:Mt.Tq 0 w2.heap.size w3 w2.heap.size ⟨1,0,[]⟩) (b3:Below w2.heap.size w2 w3) (h4:Mt.Rs w3.heap.size w4 (w3.heap.size + 1) [⟨0,0,1,true⟩]) (b4:Below w3.heap.size w3 w4) :
  Bx t w2.heap.size r w3.heap.size V.heap.size w1.heap.size 1 0 w w4 (Tr.new 40 20) (Tr.new 40 20) ⟨1,0,[]⟩ ⟨1,0,[]⟩ [⟨0,0,1,true⟩]:=by
 have s1:=b1.size
 have s2:=b2.size
 have s3:=b3.size
 exact ⟨((h1.below b2).below b3).below b4,(h2.below b3).below b4,h1.f,L16.new 40 20,h3.below b4,h4,Mt.RT.new 1,Mt.Wf.new 1,(((hb.trans (b1.mono h0)).trans (b2.mono (by omega))).trans (b3.mono (by omega))).trans (b4.mono (by omega)),h0,by omega,by omega,by omega⟩
theorem new_any (w:World):Calls Tryz.prog 25 #[] w fun e w'=>∃ t m r R l0 l1,e=.returned (.tuple #[.agg #[P0 t,P0 m,P0 r,P0 (R + 1)],.bool true])∧Hid (Bx t m r R l0 l1 1 0 w w' (Tr.new 40 20) (Tr.new 40 20) ⟨1,0,[]⟩ ⟨1,0,[]⟩ [⟨0,0,1,true⟩]):=by
 obtain ⟨V,hV,hz,hB0⟩:∃ V,w.alloc (.cells #[.pointer none,.pointer none,.pointer none,.pointer none] 46)=V∧V.heap[w.heap.size]?=some (.cells #[.pointer none,.pointer none,.pointer none,.pointer none] 46)∧Below w.heap.size w V:=⟨_,rfl,putAll _ _ rfl,(Below.refl _ _).alloc (Nat.le_refl _) _⟩
 have H1:=hide (new_Q 40 20 (by omega) (by omega) V)
 go_enter Tryz.func25,Tryz.ntmps25
 go_wp2_with fail
 refine (unhide H1).mono ?_
 rintro e w1 ⟨t,rfl,T1,B1⟩
 go_wp2_with fail
 refine (Rf.dNew_any 40 20 (by omega) (by omega) w1).mono ?_
 rintro e w2 ⟨r,rfl,T2,B2⟩
 have HT2:=hide (⟨T2,B2⟩:_∧_)
 clear T2 B2
 go_wp2_with fail
 refine (Mt.new_Q 1 w2).mono ?_
 rintro e w3 ⟨rfl,T3,B3⟩
 have HT3:=hide (⟨T3,B3⟩:_∧_)
 clear T3 B3
 go_wp2_with fail
 refine (Mt.rnew_any 1 w3).mono ?_
 rintro e w4 ⟨rfl,T4,B4⟩
 have S:=new4 hB0.size hB0 (unhide T1) (unhide B1) (unhide HT2).1 (unhide HT2).2 (unhide HT3).1 (unhide HT3).2 T4 B4
 have hz4:w4.heap[w.heap.size]?=some (.cells #[.pointer none,.pointer none,.pointer none,.pointer none] 46):=by
  have z1:=lt_of_heap hz
  have s1:=(unhide B1).size
  have s2:=(unhide HT2).2.size
  have s3:=(unhide HT3).2.size
  rw [B4.block _ (by omega),(unhide HT3).2.block _ (by omega),(unhide HT2).2.block _ (by omega),(unhide B1).block _ (by omega),hz]
 clear T4 B4 HT2 HT3 T1 B1 H1
 generalize hm:w2.heap.size=m at *
 generalize hR:w3.heap.size=R at *
 obtain ⟨X0,hX0,q0,S0,q5⟩:∃ X,w4.alloc (.cells #[P0 t,P0 m,P0 r,P0 (R + 1)] 46)=X∧X.heap[w4.heap.size]?=some (.cells #[P0 t,P0 m,P0 r,P0 (R + 1)] 46)∧Bx t m r R V.heap.size w1.heap.size 1 0 w X (Tr.new 40 20) (Tr.new 40 20) ⟨1,0,[]⟩ ⟨1,0,[]⟩ [⟨0,0,1,true⟩]∧X.heap[w.heap.size]?=some (.cells #[.pointer none,.pointer none,.pointer none,.pointer none] 46):=⟨_,rfl,putAll _ _ rfl,S.below ((Below.refl _ _).alloc (Nat.le_refl _) _),(Below.heap_alloc _ _ _ (lt_of_heap hz4)).trans hz4⟩
 have a0:X0.cell? ⟨w4.heap.size,0,none⟩=some (P0 t):=by rw [cell_of q0];rfl
 have a1:X0.cell? ⟨w4.heap.size,1,none⟩=some (P0 m):=by rw [cell_of q0];rfl
 have a2:X0.cell? ⟨w4.heap.size,2,none⟩=some (P0 r):=by rw [cell_of q0];rfl
 have a3:X0.cell? ⟨w4.heap.size,3,none⟩=some (P0 (R + 1)):=by rw [cell_of q0];rfl
 obtain ⟨X1,hX1,g1⟩:∃ X,X0.setCell ⟨w.heap.size,0,none⟩ (P0 t)=X∧X.heap[w.heap.size]?=some (.cells #[P0 t,.pointer none,.pointer none,.pointer none] 46):=⟨_,rfl,by rw [heap_set q5];rfl⟩
 obtain ⟨X2,hX2,g2⟩:∃ X,X1.setCell ⟨w.heap.size,1,none⟩ (P0 m)=X∧X.heap[w.heap.size]?=some (.cells #[P0 t,P0 m,.pointer none,.pointer none] 46):=⟨_,rfl,by rw [heap_set g1];rfl⟩
 obtain ⟨X3,hX3,g3⟩:∃ X,X2.setCell ⟨w.heap.size,2,none⟩ (P0 r)=X∧X.heap[w.heap.size]?=some (.cells #[P0 t,P0 m,P0 r,.pointer none] 46):=⟨_,rfl,by rw [heap_set g2];rfl⟩
 obtain ⟨X4,hX4,g4⟩:∃ X,X3.setCell ⟨w.heap.size,3,none⟩ (P0 (R + 1))=X∧X.heap[w.heap.size]?=some (.cells #[P0 t,P0 m,P0 r,P0 (R + 1)] 46):=⟨_,rfl,by rw [heap_set g3];rfl⟩
 have F:Fr [w.heap.size] X0 X4:=by
  rw [← hX4,← hX3,← hX2,← hX1]
  exact ((((Fr.refl _ X0).set (a:=⟨w.heap.size,0,none⟩) (by simp) _).set (a:=⟨w.heap.size,1,none⟩) (by simp) _).set (a:=⟨w.heap.size,2,none⟩) (by simp) _).set (a:=⟨w.heap.size,3,none⟩) (by simp) _
 have HS:=hide (S0.turn q5 own_both F (Nat.le_refl _))
 have c0:X0.cell? ⟨w.heap.size,0,none⟩=some (.pointer none)∧X0.frozen? ⟨w.heap.size,0,none⟩=false:=⟨by rw [cell_of q5];rfl,frozen_of q5 0⟩
 have c1:X1.cell? ⟨w.heap.size,1,none⟩=some (.pointer none)∧X1.frozen? ⟨w.heap.size,1,none⟩=false:=⟨by rw [cell_of g1];rfl,frozen_of g1 1⟩
 have c2:X2.cell? ⟨w.heap.size,2,none⟩=some (.pointer none)∧X2.frozen? ⟨w.heap.size,2,none⟩=false:=⟨by rw [cell_of g2];rfl,frozen_of g2 2⟩
 have c3:X3.cell? ⟨w.heap.size,3,none⟩=some (.pointer none)∧X3.frozen? ⟨w.heap.size,3,none⟩=false:=⟨by rw [cell_of g3];rfl,frozen_of g3 3⟩
 have d0:X4.cell? ⟨w.heap.size,0,none⟩=some (P0 t):=by rw [cell_of g4];rfl
 have d1:X4.cell? ⟨w.heap.size,1,none⟩=some (P0 m):=by rw [cell_of g4];rfl
 have d2:X4.cell? ⟨w.heap.size,2,none⟩=some (P0 r):=by rw [cell_of g4];rfl
 have d3:X4.cell? ⟨w.heap.size,3,none⟩=some (P0 (R + 1)):=by rw [cell_of g4];rfl
 obtain ⟨c00,c01⟩:=c0
 obtain ⟨c10,c11⟩:=c1
 obtain ⟨c20,c21⟩:=c2
 obtain ⟨c30,c31⟩:=c3
 clear S S0 F q0 q5 g1 g2 g3 g4 hz hz4 hB0
 go_wp2_with fail
 refine bodyPost_ret (v:=.tuple #[.agg #[P0 t,P0 m,P0 r,P0 (R + 1)],.bool true]) ?_ rfl ⟨t,m,r,R,_,_,rfl,HS⟩
 simp [results,Tryz.results25,go_sem,d0,d1,d2,d3]
end Go.Proofs.YtlngeaacjbdmhaaGreat.Bt
namespace Go.Proofs.YtlngeaacjbdmhaaGreat.Wl
def En.Short (E:En) (k:Nat):Prop:=∀ n,(E.text n).length≤k
end Go.Proofs.YtlngeaacjbdmhaaGreat.Wl
