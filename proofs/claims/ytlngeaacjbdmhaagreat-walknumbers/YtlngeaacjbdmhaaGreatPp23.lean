/-
 The document's own tree: its calls told of a tree T.
-/
import Derived.Test.YtlngeaacjbdmhaaGreatPp22
import Derived.Test.YtlngeaacjbdmhaaGreatPp08
import Derived.Test.YtlngeaacjbdmhaaGreatPp13
import Derived.Deep.RegionLaw
set_option maxRecDepth 100000
set_option maxHeartbeats 1000000
namespace Go.Proofs.YtlngeaacjbdmhaaGreat.Rf
open Go.RowKit Go.Maps
section
variable {lo N:Nat} {W W':World} {r:Nat} {T:Tr} {uv:Int→Int} {B:Nat}
theorem Dq.below (h:Dq lo N W r T) (g:Below W.heap.size W W'):Dq lo N W' r T:=by
 obtain ⟨p,Lv,nb,ev,uv,h,hu⟩:=h
 exact ⟨p,Lv,nb,ev,uv,h.below g,hu⟩
theorem Dq.keep (h:Dq lo N W r T) (hs:W.heap.size≤W'.heap.size) (hk:∀ (b:Nat) (cs:Array Value) (t:TypeId) (f:Nat × Nat),W.heap[b]?=some (.cells cs t f)→rty t→W'.heap[b]?=W.heap[b]?):Dq lo N W' r T:=by
 obtain ⟨p,Lv,nb,ev,uv,h,hu⟩:=h
 exact ⟨p,Lv,nb,ev,uv,h.keep hs hk,hu⟩
theorem Dq.bds (h:Dq lo N W r T):lo≤W.heap.size∧lo≤r∧r < W.heap.size:=by
 obtain ⟨p,Lv,nb,ev,uv,h,hu⟩:=h
 exact ⟨h.bd.2.1,h.bd.1,lt_of_heap h.ht⟩
theorem De.below (h:De lo N W W' r T) {V:World} (g:Below W'.heap.size W' V):De lo N W V r T:=⟨h.1.below g,h.2.trans (Rx.of_below g h.1.bds.1)⟩
theorem De.trans {V:World} {T':Tr} (h:De lo N W W' r T) (g:De lo N W' V r T'):De lo N W V r T':=⟨g.1,h.2.trans g.2⟩
theorem Uq.node (hu:Uq T uv) {n:Int} {x y:Nd} (hx:T.nd n=some x) (hk:y.kind=x.kind) (hn:y.names=x.names) (hp:y.up=x.up):Uq (T.set n (some y)) uv:=by
 intro k z hz
 obtain ⟨z1,z2⟩:=Tr.dir_some.1 hz
 by_cases e:k=n
 ·subst e
  rw [Tr.set_same] at z1
  cases z1
  have h2:T.dir k=some x:=Tr.dir_some.2 ⟨hx,by rw [← hk];exact z2⟩
  rw [hu k x h2,Tr.up,Tr.up,hz,h2]
  simp [hn,hp]
 ·rw [Tr.set_other _ _ e] at z1
  have h2:T.dir k=some z:=Tr.dir_some.2 ⟨z1,z2⟩
  rw [hu k z h2,Tr.up,Tr.up,hz,h2]
theorem dHold_D (hq:Dq lo N W r T) (hw:Wk B T) (hB:B≤890) (n:Int) (hn:(kl n).wf=true) :
  Calls Tryz.prog 71 #[P0 r,I n] W fun e w'=>e=.returned (I (T.holdE n))∧De lo N W w' r (T.hold n):=by
 obtain ⟨p,Lv,nb,ev,uv,h,hu⟩:=hq
 refine (dHold_any h hw hB n hn).mono ?_
 rintro e w' ⟨h1,h2,h3⟩
 refine ⟨h1,⟨p,Lv,nb,ev,uv,h2,?_⟩,h3⟩
 unfold Tr.hold
 cases hx:T.nd n with
 | none=>exact hu
 | some x=>exact hu.node hx rfl rfl rfl
theorem dSetMode_D (hq:Dq lo N W r T) (hw:Wk B T) (hB:B≤900) (n:Int) (hn:(kl n).wf=true) (mode:Int) :
  Calls Tryz.prog 41 #[P0 r,I n,I mode] W fun e w'=>e=.returned (I (setE T n))∧De lo N W w' r (T.setMode n mode):=by
 obtain ⟨p,Lv,nb,ev,uv,h,hu⟩:=hq
 refine (dSetMode_any h hw hB n hn mode).mono ?_
 rintro e w' ⟨h1,h2,h3⟩
 refine ⟨h1,⟨p,Lv,nb,ev,uv,h2,?_⟩,h3⟩
 unfold Tr.setMode
 cases hx:T.nd n with
 | none=>exact hu
 | some x=>exact hu.node hx rfl rfl rfl
theorem dSetOwner_D (hq:Dq lo N W r T) (hw:Wk B T) (hB:B≤900) (n:Int) (hn:(kl n).wf=true) (uid gid:Int) :
  Calls Tryz.prog 75 #[P0 r,I n,I uid,I gid] W fun e w'=>e=.returned (I (setE T n))∧De lo N W w' r (T.setOwner n uid gid):=by
 obtain ⟨p,Lv,nb,ev,uv,h,hu⟩:=hq
 refine (dSetOwner_any h hw hB n hn uid gid).mono ?_
 rintro e w' ⟨h1,h2,h3⟩
 refine ⟨h1,⟨p,Lv,nb,ev,uv,h2,?_⟩,h3⟩
 unfold Tr.setOwner
 cases hx:T.nd n with
 | none=>exact hu
 | some x=>exact hu.node hx rfl rfl rfl
theorem dUp_D (hq:Dq lo N W r T) (hw:Wk B T) (hB:B≤900) (n:Int) (hn:(kl n).wf=true) :
  Calls Tryz.prog 90 #[P0 r,I n] W fun e w'=>e=.returned (I (T.up n))∧w'=W:=by
 obtain ⟨p,Lv,nb,ev,uv,h,hu⟩:=hq
 have e:upV T uv n=T.up n:=by
  unfold upV
  cases hx:T.dir n with
  | none=>simp [Tr.up,hx]
  | some x=>exact hu n x hx
 rw [← e]
 exact dUp_any h hw hB n hn
theorem dText_D (hq:Dq lo N W r T) (hw:Wk B T) (hB:B≤900) (n:Int) (hn:(kl n).wf=true) :
  Calls Tryz.prog 91 #[P0 r,I n] W fun e w'=>e=.returned (.string (T.textOf n))∧w'=W:=by
 obtain ⟨p,Lv,nb,ev,uv,h,hu⟩:=hq
 exact dText_any h hw hB n hn
theorem dFind_D (hq:Dq lo N W r T) (hw:Wk B T) (hB:B≤900) (n:Int) (hn:(kl n).wf=true) (s:ByteArray) (x0:Int) (f:Bool) (hx0:(T.findN n s).getD 0=x0) (hf:(T.findN n s).isSome=f) :
  Calls Tryz.prog 93 #[P0 r,I n,.string s] W fun e w'=>e=.returned (.tuple #[I x0,.bool f])∧∃ k,w'=W.drewN k:=by
 obtain ⟨p,Lv,nb,ev,uv,h,hu⟩:=hq
 exact dFind_any h hw hB n hn s x0 f hx0 hf
theorem Uq.give (hu:Uq T uv) (hw:Wf B T) {dir n:Int} {d x:Nd} {s:ByteArray} (hd:T.nd dir=some d) (hdk:d.kind=1) (hdn:0 < d.names) (hx:T.nd n=some x) (hxk:x.kind≠1) (hs:getE d.ins s=none) (hz:s.size≤255):Uq (T.give dir s n) uv:=by
 obtain ⟨-,h2⟩:=hw.give hd hdk hdn hx hxk hs hz
 intro k z hz
 rw [h2 k]
 obtain ⟨z1,z2⟩:=Tr.dir_some.1 hz
 rw [Tr.give_nd hd hx s k] at z1
 by_cases e:k=n
 ·rw [if_pos e] at z1
  cases z1
  exact absurd z2 hxk
 ·rw [if_neg e] at z1
  by_cases e2:k=dir
  ·subst e2
   exact hu k d (Tr.dir_some.2 ⟨hd,hdk⟩)
  ·rw [if_neg e2] at z1
   exact hu k z (Tr.dir_some.2 ⟨z1,z2⟩)
theorem dJoin_D (hq:Dq lo N W r T) (hw:Wf B T) (hB:B≤890) (dir n:Int) (s:ByteArray) (hd:(kl dir).wf=true) (hn:(kl n).wf=true) (hs:s.size≤100000) (h16:∀ y,T.nd n=some y→y.kind≠1→y.names≤16) :
  Calls Tryz.prog 67 #[P0 r,I dir,.string s,I n] W fun e w'=>e=.returned (I (T.joinE dir s n))∧De lo N W w' r (T.join dir s n):=by
 obtain ⟨p,Lv,nb,ev,uv,h,hu⟩:=hq
 refine (dJoin_any h hw.k hB dir n s hd hn hs h16 (fun y hy=>by
  obtain ⟨x,h1,h2,-⟩:=hw.root
  rw [hy] at h1
  cases h1
  exact h2)).mono ?_
 rintro e w' ⟨h1,ev',h2,h3⟩
 refine ⟨h1,⟨p,Lv,nb,ev',uv,h2,?_⟩,h3⟩
 by_cases hj:T.joinE dir s n=0
 ·obtain ⟨d,x,g1,g2,g3,g4,g5,g6,g7⟩:=Tr.joinE0 hj
  rw [Tr.join,if_pos hj]
  exact hu.give hw g1 g2 g7 g3 g4 g6 (right_size g5)
 ·rw [Tr.join,if_neg hj]
  exact hu
end
open Go.RowKit Go.Maps
attribute [local go_sem ↓] Go.wp_at_zero Go.wp_at_succ
theorem sev {X:World} {b base:Nat} {t:TypeId} {a0 a1 a2 a3 a4 a5 a6:Value} (h:X.heap[b]?=some (.cells #[a0,a1,a2,a3,a4,a5,a6] t)) (hb:base≤b) (v0 v1 v2 v3 v4 v5 v6:Value) :
  ∃ Y,((((((X.setCell ⟨b,0,none⟩ v0).setCell ⟨b,1,none⟩ v1).setCell ⟨b,2,none⟩ v2).setCell ⟨b,3,none⟩ v3).setCell ⟨b,4,none⟩ v4).setCell ⟨b,5,none⟩ v5).setCell ⟨b,6,none⟩ v6=Y∧Y.heap[b]?=some (.cells #[v0,v1,v2,v3,v4,v5,v6] t)∧Below base X Y :=
 ⟨_,rfl,by rw [heap_set (heap_set (heap_set (heap_set (heap_set (heap_set (heap_set h 0 _) 1 _) 2 _) 3 _) 4 _) 5 _) 6 _];rfl,(((((((Below.refl base X).setCell (p:=⟨b,0,none⟩) hb v0).setCell (p:=⟨b,1,none⟩) hb v1).setCell (p:=⟨b,2,none⟩) hb v2).setCell (p:=⟨b,3,none⟩) hb v3).setCell (p:=⟨b,4,none⟩) hb v4).setCell (p:=⟨b,5,none⟩) hb v5).setCell (p:=⟨b,6,none⟩) hb v6⟩
section
variable {lo N:Nat} {W W':World} {r:Nat} {T:Tr} {p:Nat} {Lv:Value} {nb:Int→Nat} {ev:Int→Value} {uv:Int→Int} {B:Nat}
theorem dStat_none (h:DtI lo N W r T p Lv nb ev uv) (hw:Wf B T) (hB:B≤890) (n:Int) (hn:(kl n).wf=true) (hx:T.nd n=none) :
  Calls Tryz.prog 88 #[P0 r,I n] W fun e w'=>e=.returned (.tuple #[stat0,.bool false])∧Below W.heap.size W w':=by
 have HA:=hide (fun V (g:Below W.heap.size W V)=>at_any (h.below g) hw.k (by omega) n hn (.pointer none) (by rw [atV,hx]))
 clear h hw
 unfold stat0
 go_enter Tryz.func88,Tryz.ntmps88
 go_wp2_with fail
 obtain ⟨V,hV,hR,hB1⟩:∃ V,V=W.alloc (Obj.cells #[Value.int IntKind.i64 0,Value.int IntKind.i64 0,Value.int IntKind.i64 0,Value.int IntKind.i64 0,Value.int IntKind.i64 0,Value.int IntKind.i64 0,Value.int IntKind.i64 0] 33)∧V.heap[W.heap.size]?=some (Obj.cells #[Value.int IntKind.i64 0,Value.int IntKind.i64 0,Value.int IntKind.i64 0,Value.int IntKind.i64 0,Value.int IntKind.i64 0,Value.int IntKind.i64 0,Value.int IntKind.i64 0] 33)∧Below W.heap.size W V:=⟨_,rfl,putAll _ _ rfl,(Below.refl _ _).alloc (Nat.le_refl _) _⟩
 rw [← hV]
 clear hV
 refine (unhide HA V hB1).mono ?_
 rintro e w1 ⟨rfl,hw1⟩
 rw [hw1]
 clear hw1
 obtain ⟨r0,r1,r2,r3,r4,r5,r6,rf⟩:=cells7 hR
 have HB:=hide hB1
 have HR:=hide hR
 clear HA hB1 hR
 go_wp2_with fail
 obtain ⟨Y,hY,hY1,hY2⟩:=sev (base:=W.heap.size) (unhide HR) (Nat.le_refl _) (I 0) (I 0) (I 0) (I 0) (I 0) (I 0) (I 0)
 rw [hY]
 obtain ⟨x0,x1,x2,x3,x4,x5,x6,xf⟩:=cells7 hY1
 refine bodyPost_ret (v:=.tuple #[.agg #[I 0,I 0,I 0,I 0,I 0,I 0,I 0],.bool false]) ?_ rfl ?_
 ·rw [results_cell_tmp rfl]
  go_simp
 ·exact ⟨rfl,(unhide HB).trans hY2⟩
theorem dStat_some (h:DtI lo N W r T p Lv nb ev uv) (hw:Wf B T) (hB:B≤890) (n:Int) (hn:(kl n).wf=true) {x:Nd} (hx:T.nd n=some x) :
  Calls Tryz.prog 88 #[P0 r,I n] W fun e w'=>e=.returned (.tuple #[T.statV n x,.bool true])∧Below W.heap.size W w':=by
 have HA:=hide (fun V (g:Below W.heap.size W V)=>at_any (h.below g) hw.k (by omega) n hn (P0 (nb n)) (by rw [atV,hx]))
 obtain ⟨L,hL⟩:∃ L:Nat,T.links x=L:=⟨_,rfl⟩
 have HLK:=hide (fun V (g:Below W.heap.size W V)=>links_any (h.below g) hw.k (by omega) hn hx (fun e=>by
  subst e
  obtain ⟨y,h1,h2,-⟩:=hw.root
  rw [hx] at h1
  cases h1
  exact h2) L hL)
 have hfw:(kl x.file).wf=true:=wf_of (by have:=hw.k.fil n x hx;omega)
 have HSZ:=hide (fun V (g:Below W.heap.size W V)=>Rb.rsize_any (h.below g).pl x.file hfw (by have:=hw.k.pol;omega))
 have hb:=(h.hn n x hx).1
 obtain ⟨a,cap,hev⟩:=own_form (h.hn n x hx).2
 have hkn:=hw.k.knd n x hx
 have htx:=hw.k.txt n x hx
 have hil:=(hw.k.bnd n x hx).2.2
 have hrt:=h.ht
 obtain ⟨mo,hmo⟩:∃ mo,mo=x.mode:=⟨_,rfl⟩
 unfold Tr.statV
 rw [hL]
 obtain ⟨Z,hZ⟩:∃ Z:Nat,T.size x=Z:=⟨_,rfl⟩
 rw [hZ]
 unfold Tr.size at hZ
 clear h hw
 generalize nb n=b at *
 go_enter Tryz.func88,Tryz.ntmps88
 go_wp2_with fail
 obtain ⟨V,hV,hR,hB1⟩:∃ V,V=W.alloc (Obj.cells #[Value.int IntKind.i64 0,Value.int IntKind.i64 0,Value.int IntKind.i64 0,Value.int IntKind.i64 0,Value.int IntKind.i64 0,Value.int IntKind.i64 0,Value.int IntKind.i64 0] 33)∧V.heap[W.heap.size]?=some (Obj.cells #[Value.int IntKind.i64 0,Value.int IntKind.i64 0,Value.int IntKind.i64 0,Value.int IntKind.i64 0,Value.int IntKind.i64 0,Value.int IntKind.i64 0,Value.int IntKind.i64 0] 33)∧Below W.heap.size W V:=⟨_,rfl,putAll _ _ rfl,(Below.refl _ _).alloc (Nat.le_refl _) _⟩
 rw [← hV]
 clear hV
 refine (unhide HA V hB1).mono ?_
 rintro e w1 ⟨rfl,hw1⟩
 rw [hw1]
 clear hw1
 obtain ⟨c0,c1,c2,c3,c4,c5,c6,c7,c8,c9,c10,c11,c12,cf⟩:=dcells ((hB1.block _ (lt_of_heap hb)).trans hb)
 go_wp2_with fail
 obtain ⟨V2,hV2,hS2,hB2⟩:∃ V2,V2=V.alloc (Obj.cells #[Value.int IntKind.i64 n,Value.int IntKind.i64 x.kind,Value.int IntKind.i64 x.mode,Value.int IntKind.i64 x.uid,Value.int IntKind.i64 x.gid,Value.int IntKind.i64 0,Value.int IntKind.i64 0] 33)∧V2.heap[V.heap.size]?=some (Obj.cells #[Value.int IntKind.i64 n,Value.int IntKind.i64 x.kind,Value.int IntKind.i64 x.mode,Value.int IntKind.i64 x.uid,Value.int IntKind.i64 x.gid,Value.int IntKind.i64 0,Value.int IntKind.i64 0] 33)∧Below V.heap.size V V2:=⟨_,rfl,putAll _ _ rfl,(Below.refl _ _).alloc (Nat.le_refl _) _⟩
 rw [← hV2]
 clear hV2
 have hB12:Below W.heap.size W V2:=hB1.trans (hB2.mono hB1.size)
 refine (unhide HLK V2 hB12).mono ?_
 rintro e w1 ⟨rfl,hw1⟩
 rw [hw1]
 clear hw1
 have hRS:W.heap.size < V.heap.size:=lt_of_heap hR
 have hbW:=lt_of_heap hb
 have hrW:=lt_of_heap hrt
 obtain ⟨X1,hX1⟩:∃ X1,V2.setCell ⟨V.heap.size,5,none⟩ (I (L:Int))=X1:=⟨_,rfl⟩
 have hX1c:X1.heap[V.heap.size]?=some (.cells #[I n,I x.kind,I x.mode,I x.uid,I x.gid,I (L:Int),I 0] 33):=by rw [← hX1,heap_set hS2];rfl
 have hX1B:Below W.heap.size W X1:=by rw [← hX1];exact hB12.setCell (p:=⟨V.heap.size,5,none⟩) (by show W.heap.size≤V.heap.size;omega) _
 have hX1R:X1.heap[W.heap.size]?=some (Obj.cells #[Value.int IntKind.i64 0,Value.int IntKind.i64 0,Value.int IntKind.i64 0,Value.int IntKind.i64 0,Value.int IntKind.i64 0,Value.int IntKind.i64 0,Value.int IntKind.i64 0] 33):=by
  rw [← hX1,Below.heap_setCell _ _ _ _ (show W.heap.size≠V.heap.size by omega),hB2.block _ hRS]
  exact hR
 have FIN:Hid (∀ X1',Below X1.heap.size X1 X1'→∃ X2,X1'.setCell ⟨V.heap.size,6,none⟩ (I (Z:Int))=X2∧X2.heap[V.heap.size]?=some (.cells #[I n,I x.kind,I x.mode,I x.uid,I x.gid,I (L:Int),I (Z:Int)] 33)∧∃ Y,((((((X2.setCell ⟨W.heap.size,0,none⟩ (I n)).setCell ⟨W.heap.size,1,none⟩ (I x.kind)).setCell ⟨W.heap.size,2,none⟩ (I x.mode)).setCell ⟨W.heap.size,3,none⟩ (I x.uid)).setCell ⟨W.heap.size,4,none⟩ (I x.gid)).setCell ⟨W.heap.size,5,none⟩ (I (L:Int))).setCell ⟨W.heap.size,6,none⟩ (I (Z:Int))=Y∧Y.heap[W.heap.size]?=some (.cells #[I n,I x.kind,I x.mode,I x.uid,I x.gid,I (L:Int),I (Z:Int)] 33)∧Below W.heap.size W Y∧X2.heap[W.heap.size]?=some (Obj.cells #[Value.int IntKind.i64 0,Value.int IntKind.i64 0,Value.int IntKind.i64 0,Value.int IntKind.i64 0,Value.int IntKind.i64 0,Value.int IntKind.i64 0,Value.int IntKind.i64 0] 33)):=hide fun X1' hB'=>by
  have k1:X1'.heap[V.heap.size]?=_:=(hB'.block _ (lt_of_heap hX1c)).trans hX1c
  have k2:X1'.heap[W.heap.size]?=_:=(hB'.block _ (lt_of_heap hX1R)).trans hX1R
  have k3:(X1'.setCell ⟨V.heap.size,6,none⟩ (I (Z:Int))).heap[W.heap.size]?=_:=(Below.heap_setCell _ _ _ _ (show W.heap.size≠V.heap.size by omega)).trans k2
  obtain ⟨Y,y1,y2,y3⟩:=sev (base:=W.heap.size) k3 (Nat.le_refl _) (I n) (I x.kind) (I x.mode) (I x.uid) (I x.gid) (I (L:Int)) (I (Z:Int))
  exact ⟨_,rfl,by rw [heap_set k1];rfl,Y,y1,y2,((hX1B.trans (hB'.mono hX1B.size)).setCell (p:=⟨V.heap.size,6,none⟩) (by show W.heap.size≤V.heap.size;omega) _).trans y3,k3⟩
 obtain ⟨g0,g1,g2,g3,g4,g5,g6,gf⟩:=cells7 hX1c
 obtain ⟨-,-,-,-,-,-,-,c7',c8',-,-,-,c12',-⟩:=dcells ((hX1B.block _ hbW).trans hb)
 have q1:X1.cell? ⟨r,1,none⟩=some (P0 p):=by rw [cell_of ((hX1B.block _ hrW).trans hrt)];rfl
 have s5:V2.cell? ⟨V.heap.size,5,none⟩=some (I 0):=by rw [cell_of hS2];rfl
 have sf5:V2.frozen? ⟨V.heap.size,5,none⟩=false:=frozen_of hS2 5
 rw [hev] at c8'
 have HSX:=hide (unhide HSZ X1 hX1B)
 have HSXd:=hide (unhide HSZ X1.drew (below_drew hX1B))
 have hkk:x.kind=1 ∨ x.kind=2 ∨ x.kind=3:=by omega
 generalize hkd:x.kind=kd at *
 clear HA HLK HSZ hB12 hB1 hB2 hS2 hX1c hX1B hX1R hR hb hrt c0 c1 c2 c3 c4 c5 c6 c7 c8 c9 c10 c11 c12 cf hkn
 rcases hkk with rfl | rfl | rfl
 ·rw [if_neg (by decide),if_neg (by decide)] at hZ
  rw [hZ] at c8' hil
  obtain ⟨X2,hx2,h2,Y,hy,hyc,hyB,h2R⟩:=unhide FIN X1 (Below.refl _ _)
  obtain ⟨f0,f1,f2,f3,f4,f5,f6,ff⟩:=cells7 h2
  obtain ⟨t0,t1,t2,t3,t4,t5,t6,tf⟩:=cells7 h2R
  have HYC:=hide hyc
  have HYB:=hide hyB
  clear hyc hyB h2 h2R FIN
  go_wp2_with fail
  refine bodyPost_ret (v:=.tuple #[.agg #[I n,I 1,I x.mode,I x.uid,I x.gid,I (L:Int),I (Z:Int)],.bool true]) ?_ rfl ?_
  ·rw [results_cell_tmp rfl]
   obtain ⟨e0,e1,e2,e3,e4,e5,e6,ef⟩:=cells7 (unhide HYC)
   go_simp
  ·exact ⟨by rw [hkd],unhide HYB⟩
 ·rw [if_pos rfl] at hZ
  rw [hZ] at HSX HSXd
  obtain ⟨X2,hx2,h2,Y,hy,hyc,hyB,h2R⟩:=unhide FIN X1.drew (below_drew (Below.refl _ _))
  obtain ⟨f0,f1,f2,f3,f4,f5,f6,ff⟩:=cells7 h2
  obtain ⟨t0,t1,t2,t3,t4,t5,t6,tf⟩:=cells7 h2R
  have HYC:=hide hyc
  have HYB:=hide hyB
  clear hyc hyB h2 h2R FIN
  go_wp2_with fail
  have q2:X2.cell? ⟨r,1,none⟩=some (P0 p):=by
   rw [← hx2]
   exact (World.cell?_of_block (a:=⟨r,1,none⟩) (Below.heap_setCell _ _ _ _ (show r≠V.heap.size by omega))).trans q1
  have q3:X2.cell? ⟨b,12,none⟩=some (I x.file):=by
   rw [← hx2]
   exact (World.cell?_of_block (a:=⟨b,12,none⟩) (Below.heap_setCell _ _ _ _ (show b≠V.heap.size by omega))).trans c12'
  go_region_held3 (fun w'=>w'.cell? ⟨r,1,none⟩=some (P0 p)∧w'.cell? ⟨b,12,none⟩=some (I x.file)) (go_keep) ((go_at_call 145;refine (unhide HSXd).mono ?_;rintro e w2 ⟨rfl,hw2⟩;rw [hw2];clear hw2))
  go_wp2_with fail
  refine bodyPost_ret (v:=.tuple #[.agg #[I n,I 2,I x.mode,I x.uid,I x.gid,I (L:Int),I (Z:Int)],.bool true]) ?_ rfl ?_
  ·rw [results_cell_tmp rfl]
   obtain ⟨e0,e1,e2,e3,e4,e5,e6,ef⟩:=cells7 (unhide HYC)
   go_simp
  ·exact ⟨by rw [hkd],unhide HYB⟩
 ·rw [if_neg (by decide),if_pos rfl] at hZ
  subst hZ
  obtain ⟨X2,hx2,h2,Y,hy,hyc,hyB,h2R⟩:=unhide FIN X1 (Below.refl _ _)
  obtain ⟨f0,f1,f2,f3,f4,f5,f6,ff⟩:=cells7 h2
  obtain ⟨t0,t1,t2,t3,t4,t5,t6,tf⟩:=cells7 h2R
  have HYC:=hide hyc
  have HYB:=hide hyB
  clear hyc hyB h2 h2R FIN
  go_wp2_with fail
  refine bodyPost_ret (v:=.tuple #[.agg #[I n,I 3,I x.mode,I x.uid,I x.gid,I (L:Int),I (x.text.size:Int)],.bool true]) ?_ rfl ?_
  ·rw [results_cell_tmp rfl]
   obtain ⟨e0,e1,e2,e3,e4,e5,e6,ef⟩:=cells7 (unhide HYC)
   go_simp
  ·exact ⟨by rw [hkd],unhide HYB⟩
end
end Go.Proofs.YtlngeaacjbdmhaaGreat.Rf
namespace Go.Proofs.YtlngeaacjbdmhaaGreat.Mt
open Go.RowKit Go.Shelf
attribute [local go_sem] Oper.semAt_some
theorem info3:(Tryz.prog.info? 3).map (fun i=>(i.zero,i.size,i.bytes))=some (some (.int .i64 0),1,8):=by kernel_rfl
abbrev ints (l:List Int):List Value:=l.map I
def abv (es:Ents) (m:Int):List Int:=(es.filter (isM m)).map (·.n)
def lst (es:Ents):List Int:=0 :: es.map (·.n)
theorem abv_yes {es:Ents} {i:Nat} {p:Ld} {m:Int} (h:es[i]?=some p) (hp:p.am=m):abv (es.take (i + 1)) m=abv (es.take i) m ++ [p.n]:=by
 rw [List.take_add_one,h];simp [abv,isM,hp]
theorem abv_no {es:Ents} {i:Nat} {p:Ld} {m:Int} (h:es[i]?=some p) (hp:¬ p.am=m):abv (es.take (i + 1)) m=abv (es.take i) m:=by
 rw [List.take_add_one,h];simp [abv,isM,hp]
theorem abv_len (es:Ents) (m:Int) (i:Nat):(abv (es.take i) m).length≤es.length:=by
 have:=List.length_filter_le (isM m) (es.take i)
 simp [abv] at this ⊢
 omega
theorem wpListIn_append_eq {F:Fence} {n:Nat} {P:Program} {w:World} {ops:Array Oper} {rest:List Oper} {o:Oper} {a:Act} {Q:Exit→Act→World→Prop} (hgd:o.guard=none) (s x:Operand) (t:TypeId)
  (ho:o.op=.call { callee:=.builtin .append,args:=#[s,x],argTypes:=#[t,t] }) (ty:TypeId) (hty:o.type=ty) (vs vx:Value) (hs:a.eval s=vs) (hx:a.eval x=vx) (v':Value) (w':World)
  (hrun:(Builtin.append_ #[t,t] ty #[vs,vx]).run P w=.ok v' w') (h:wpListIn F n P ops Q rest (a.put o.dst v') w'):wpListIn F n P ops Q (o :: rest) a w:=by
 refine wpListIn_plain hgd fun K hK'=>?_
 unfold Oper.wpIn
 refine ⟨?_,?_⟩
 ·simp [Oper.about,ho,resolve,Target.leads,Sem.run_pure]
 ·rw [Oper.semAt_plain F _ _ (by rw [ho];intro c hc';cases hc')]
  simp [execOp,ho,resolve,invoke,builtin,hs,hx,hty,hrun,Result.andThen]
  exact hK' _ _ h
structure AJ (w W:World) (r:Loop) (h b:Nat) (es:Ents) (m:Int) (i:Nat):Prop where
 f:Fl w W r h (h + 4) (h + 3) (h + 2) b
 k0:W.heap[h]?=some (.cells #[I m] 3)
 ow:∃ v,W.heap[h + 1]?=some (.cells #[v] 72)∧W.ownsRow h 3 1 v (abv (es.take i) m).length (ints (abv (es.take i) m))∧v.ownBlock≠some h
theorem AJ.alloc {w W:World} {r:Loop} {h b:Nat} {es:Ents} {m:Int} {i:Nat} (J:AJ w W r h b es m i) (o:Obj) (hh:h≤W.heap.size):AJ w (W.alloc o) r h b es m i :=
 have kp:∀ {k:Nat} {o':Obj},W.heap[k]?=some o'→(W.alloc o).heap[k]?=some o':=fun h1=>(Below.heap_alloc _ _ _ (lt_of_heap h1)).trans h1
 ⟨⟨kp J.f.l,kp J.f.dd,kp J.f.xx,J.f.be.alloc hh o⟩,kp J.k0,let ⟨v,h1,h2,h3⟩:=J.ow;⟨v,kp h1,own_keep h2 (fun _ _ hc=>Below.heap_alloc _ _ _ (lt_of_heap hc)),h3⟩⟩
theorem AJ.put {w W:World} {r:Loop} {h b:Nat} {es:Ents} {m:Int} {i:Nat} (J:AJ w W r h b es m i) (r':Loop):AJ w (W.putObj (h + 4) (.loop r')) r' h b es m i :=
 ⟨J.f.put r' (by omega),put_other J.f.l J.k0 (by simp),let ⟨v,h1,h2,h3⟩:=J.ow;⟨v,put_other J.f.l h1 (by simp),own_put h2 J.f.l,h3⟩⟩
theorem above_in (base b:Nat) (rt md m:Int) (es:Ents) (w:World) (hG:Ls base w b rt md es) (hes:es.length≤1000) :
  CallsIn Fence.wide 5 Tryz.prog 273 #[.pointer (some ⟨b,0,none⟩),I m] w fun e w'=>∃ v,e=.returned v∧w'.ownsRow w.heap.size 3 1 v (abv es m).length (ints (abv es m))∧Below w.heap.size w w':=by
 have hro:Fence.wide.round=none:=rfl
 have HG:=hide hG
 have hbl:=hG.lt
 obtain ⟨i0,hi,hz0,hz1,hz2⟩:=info_parts info3
 clear hG
 refine callsIn_of_wp_marks Tryz.func273 rfl trivial ?_ hro
 simp only [Tryz.ntmps273,List.size_toArray,List.length_cons,List.length_nil,Nat.reduceAdd,Nat.reduceSub,Array.replicate_succ,Array.replicate_zero,List.push_toArray,List.append_toArray,List.nil_append,List.cons_append]
 gi_wp2_with fail
 refine ⟨trivial,(callsIn_wide.2 (rising_any b _)).mono ?_⟩
 rintro e w' ⟨rfl,rfl⟩
 gi_wp2_with fail
 obtain ⟨V,hV,hsz,g0,g1,g2,hB⟩:=three0 w (.cells #[I m] 3) (.cells #[.slice none 0 0] 72) (.cells #[.pointer (some ⟨b,0,none⟩)] 43)
 rw [hV]
 clear hV
 generalize hh:w.heap.size=h at *
 have HH:Hid (w.heap.size=h):=hh
 refine wpIn_range_own hro (by omega) (gf:=252) (lb:=#[.pointer (some ⟨h + 2,0,none⟩)]) rfl trivial (enters_of Tryz.func252 (by kernel_rfl) rfl) ?_
 intro r hF hst hpe htm hps has hbo
 obtain ⟨L1,D1,hB2⟩:=setup V r
 rw [hsz] at L1 D1 ⊢
 generalize ((V.alloc (.deferred (some []))).alloc (.loop r))=W1 at L1 D1 hB2 ⊢
 have J0:AJ w W1 r h b es m 0:=⟨⟨L1,D1,(hB2.block _ (by omega)).trans g2,hB.trans (hB2.mono (by omega))⟩,(hB2.block _ (by omega)).trans g0,⟨_,(hB2.block _ (by omega)).trans g1,World.ownsRow_nil _ _ _ _,by simp [Value.ownBlock]⟩⟩
 clear L1 D1 hB2 g0 g1 g2 hB
 refine (iter_go (h + 4) (h + 2) W1 (fun i W=>AJ w W r h b es m i) (fun W=>False) (unhide HG) (by omega) J0 (fun i W' J=>⟨by rw [hh];exact J.f.be,by rw [cell_of J.f.xx];rfl⟩) ?_ (fun i W' o J=>J.alloc o (by have:=lt_of_heap J.f.l;omega))).mono ?_
 ·intro i W2 p J hi0
  have him:=(List.getElem?_eq_some_iff.1 hi0).1
  have hYY:YieldAt Fence.wide (4 - 1) Tryz.prog (h + 4) #[lv p] W2 (fun e W2=>e=.returned (.bool true)∧AJ w W2 r h b es m (i + 1)):=by
   refine yield_own hF hst hpe htm hps has hbo rfl J.f.l ?_
   clear htm hps has hbo hst hpe J0
   intro rb
   unfold lv
   gi_wp2
   have J':=J.alloc (.cells #[I p.n,I p.top,I p.am,I p.an] 182) (by have:=lt_of_heap J.f.l;omega)
   refine ⟨J'.f.l,?_⟩
   have hm:(W2.alloc (.cells #[I p.n,I p.top,I p.am,I p.an] 182)).heap[W2.heap.size]?=some (.cells #[I p.n,I p.top,I p.am,I p.an] 182):=putAll _ _ rfl
   have J4:=J'.put rb
   have km:=put_other (r':=rb) J'.f.l hm (by simp)
   have hmh:h + 4 < W2.heap.size:=lt_of_heap J.f.l
   generalize (W2.alloc (.cells #[I p.n,I p.top,I p.am,I p.an] 182)).putObj (h + 4) (.loop rb)=W4 at *
   generalize W2.heap.size=y at *
   obtain ⟨m0,m1,m2,m3⟩:=cells4 km
   have i0':W4.cell? ⟨h,0,none⟩=some (I m):=by rw [cell_of J4.k0];rfl
   obtain ⟨v,kv,own,hnb⟩:=J4.ow
   have e0:W4.cell? ⟨h + 1,0,none⟩=some v:=by rw [cell_of kv];rfl
   by_cases hc:p.am=m
   ·have hil:=abv_len es m i
    have own5:=own_keep (W':=W4.alloc (.cells #[I p.n] 3)) own (fun k cur hc=>Below.heap_alloc W4 _ _ (lt_of_heap hc))
    have hs4:h≤W4.heap.size:=by have:=lt_of_heap kv;omega
    obtain ⟨v',W5,hrun,own6,hgr,-,hat⟩:=run_append_own_at (P:=Tryz.prog) (W4.alloc (.cells #[I p.n] 3)) h 72 72 3 i0 (I 0) 1 8 Tryz.underlying72 hi hz0 hz1 hz2 rfl (by decide) v _ _ own5 ⟨W4.heap.size,0,none⟩ 1 1 [I p.n] rfl (cell_one_new W4 _ _) (by intro u hu;simp at hu;subst hu;rfl) (by unfold maxLen;omega) (by omega) (by simp;omega)
    obtain ⟨F5,H5,k5,own7⟩:=box_more J4.f kv own hgr own6 (by omega) (by decide) (by decide) (by decide)
    have ef5:W5.frozen? ⟨h + 1,0,none⟩=false:=frozen_of H5 0
    have ec5:W5.cell? ⟨h + 1,0,none⟩=some v:=by rw [cell_of H5];rfl
    have m0':=cell_alloc m0 (.cells #[I p.n] 3)
    have e0':=cell_alloc e0 (.cells #[I p.n] 3)
    have k05:=(Below.heap_setCell W5 ⟨h + 1,0,none⟩ v' h (by simp)).trans ((hgr.block h (by simp;have:=lt_of_heap J4.k0;omega) (Ne.symm hnb)).trans ((Below.heap_alloc W4 (.cells #[I p.n] 3) h (lt_of_heap J4.k0)).trans J4.k0))
    have hnb':v'.ownBlock≠some h:=by
     rcases hat with e | e
     ·rw [e];exact hnb
     ·rw [e];simp;have:=lt_of_heap J4.k0;omega
    have J5:AJ w (W5.setCell ⟨h + 1,0,none⟩ v') rb h b es m (i + 1):=by
     refine ⟨F5,k05,⟨v',k5,?_,hnb'⟩⟩
     rw [abv_yes hi0 hc,List.length_append]
     simpa [ints] using own7
    have FIN:=hide (J5.put r)
    have HL:=hide J5.f.l
    obtain ⟨q',cp,rfl⟩:=own_form own6
    generalize (abv (es.take i) m).length + 1=n' at *
    clear J J' J4 hm km own own5 kv HG hi0 own6 hgr F5 H5 k5 own7 J5 hil hs4 hat k05 hnb hnb'
    gi_wp2_with (gi_at_builtin;refine wpListIn_append_eq rfl _ _ 72 rfl 72 rfl _ _ rfl rfl _ _ hrun ?_)
    exact ⟨unhide HL,unhide FIN⟩
   ·have FIN:=hide (show AJ w (W4.putObj (h + 4) (.loop r)) r h b es m (i + 1) from ⟨J4.f.put r (by omega),put_other J4.f.l J4.k0 (by simp),⟨v,put_other J4.f.l kv (by simp),by rw [abv_no hi0 hc];exact own_put own J4.f.l,hnb⟩⟩)
    have HL:=hide J4.f.l
    clear J J' J4 hm km own kv HG hi0
    gi_wp2_with fail
    exact ⟨unhide HL,unhide FIN⟩
  obtain ⟨fn,tmps,assign,body,h1,h2⟩:=hYY
  exact ⟨fn,tmps,assign,body,h1,h2.mono fun e W hh=>.inl hh⟩
 ·rintro e W2 ⟨rfl,J | J⟩
  ·refine ⟨⟨_,rfl⟩,J.f.l,?_⟩
   have J6:=J.put { r with state:=.exhausted }
   generalize W2.putObj (h + 4) (.loop { r with state:=.exhausted })=W3 at *
   obtain ⟨v,kv,own,-⟩:=J6.ow
   rw [List.take_length] at own
   have e1:W3.cell? ⟨h + 1,0,none⟩=some v:=by rw [cell_of kv];rfl
   have HJ:=hide J6
   have HO:=hide own
   clear J J0 J6 htm hps has hbo hst hpe kv own HG
   gi_wp2_with fail
   refine ⟨by simp,.inl ⟨_,_,rfl,run_takeDeferred (unhide HJ).f.dd,?_⟩⟩
   have hb:=(unhide HJ).f.be
   have be7:Below h w (W3.putObj (h + 3) (.deferred none)):=⟨hb.os,hb.tape,hb.output,by rw [World.putObj_size];exact hb.size,fun k hk=>(World.putObj_heap_other (by omega)).trans (hb.block k hk)⟩
   have own7:(W3.putObj (h + 3) (.deferred none)).ownsRow h 3 1 v _ _:=own_keep (unhide HO) fun k cur hc=>World.putObj_heap_other (by
    rintro rfl
    rw [(unhide HJ).f.dd] at hc
    simp at hc)
   rw [unhide HH]
   refine ⟨v,by simp [results,Tryz.results273,go_sem],v,rfl,own7,be7⟩
  ·exact J.elim
theorem above_any (base b:Nat) (rt md m:Int) (es:Ents) (w:World) (hG:Ls base w b rt md es) (hes:es.length≤1000) :
  Calls Tryz.prog 273 #[.pointer (some ⟨b,0,none⟩),I m] w fun e w'=>∃ v,e=.returned v∧w'.ownsRow w.heap.size 3 1 v (abv es m).length (ints (abv es m))∧Below w.heap.size w w' :=
 callsIn_wide.1 (above_in base b rt md m es w hG hes)
structure LJ (w W:World) (r:Loop) (h b:Nat) (es:Ents) (i:Nat):Prop where
 f:Fl w W r h (h + 4) (h + 3) (h + 2) b
 ow:∃ v,W.heap[h + 1]?=some (.cells #[v] 72)∧W.ownsRow h 3 1 v (lst (es.take i)).length (ints (lst (es.take i)))
theorem LJ.alloc {w W:World} {r:Loop} {h b:Nat} {es:Ents} {i:Nat} (J:LJ w W r h b es i) (o:Obj) (hh:h≤W.heap.size):LJ w (W.alloc o) r h b es i :=
 have kp:∀ {k:Nat} {o':Obj},W.heap[k]?=some o'→(W.alloc o).heap[k]?=some o':=fun h1=>(Below.heap_alloc _ _ _ (lt_of_heap h1)).trans h1
 ⟨⟨kp J.f.l,kp J.f.dd,kp J.f.xx,J.f.be.alloc hh o⟩,let ⟨v,h1,h2⟩:=J.ow;⟨v,kp h1,own_keep h2 (fun _ _ hc=>Below.heap_alloc _ _ _ (lt_of_heap hc))⟩⟩
theorem LJ.put {w W:World} {r:Loop} {h b:Nat} {es:Ents} {i:Nat} (J:LJ w W r h b es i) (r':Loop):LJ w (W.putObj (h + 4) (.loop r')) r' h b es i :=
 ⟨J.f.put r' (by omega),let ⟨v,h1,h2⟩:=J.ow;⟨v,put_other J.f.l h1 (by simp),own_put h2 J.f.l⟩⟩
attribute [local go_sem ↓] Go.wp_at_zero Go.wp_at_succ
theorem wpList_append_eq {P:Program} {w:World} {ops:Array Oper} {rest:List Oper} {o:Oper} {a:Act} {Q:Exit→Act→World→Prop} (hgd:o.guard=none) (s x:Operand) (t:TypeId)
  (ho:o.op=.call { callee:=.builtin .append,args:=#[s,x],argTypes:=#[t,t] }) (ty:TypeId) (hty:o.type=ty) (vs vx:Value) (hs:a.eval s=vs) (hx:a.eval x=vx) (v':Value) (w':World)
  (hrun:(Builtin.append_ #[t,t] ty #[vs,vx]).run P w=.ok v' w') (h:wpList P ops Q rest (a.put o.dst v') w'):wpList P ops Q (o :: rest) a w:=by
 refine wpList_plain hgd fun K hK=>?_
 unfold Oper.wp execOp
 simp only [ho,resolve,invoke,builtin,Sem.run_bind,Sem.run_pure,Result.andThen_ok,List.map_toArray,List.map_cons,List.map_nil,hs,hx,hty,hrun]
 exact hK _ _ h
theorem infoL:(Tryz.prog.info? 182).map (fun i=>(i.zero,i.size,i.bytes))=some (some (.agg #[I 0,I 0,I 0,I 0]),4,32):=by kernel_rfl
theorem step_append_eq {P:Program} {w:World} {ops:Array Oper} {o:Oper} {a:Act} {K:Act→World→Prop} {Q:Exit→Act→World→Prop} {E:Prop} (hgd:o.guard=none) (s x:Operand) (t:TypeId)
  (ho:o.op=.call { callee:=.builtin .append,args:=#[s,x],argTypes:=#[t,t] }) (ty:TypeId) (hty:o.type=ty) (vs vx:Value) (hs:a.eval s=vs) (hx:a.eval x=vx) (v':Value) (w':World)
  (hrun:(Builtin.append_ #[t,t] ty #[vs,vx]).run P w=.ok v' w') (h:K (a.put o.dst v') w') :
  if Region.wanted o (yielded ops a.tmps)=true then Oper.wp P o a w K Q else E:=by
 have hw:Region.wanted o (yielded ops a.tmps)=true:=by simp [Region.wanted,hgd]
 rw [if_pos hw]
 unfold Oper.wp execOp
 simp only [ho,resolve,invoke,builtin,Sem.run_bind,Sem.run_pure,Result.andThen_ok,List.map_toArray,List.map_cons,List.map_nil,hs,hx,hty,hrun]
 exact h
theorem cells_new4 (w:World) (p:Ld) (t:TypeId):∀ (j:Nat) (u:Value),(row p)[j]?=some u→(w.alloc (.cells #[I p.n,I p.top,I p.am,I p.an] t)).cell? ((⟨w.heap.size,0,none⟩:Addr).add j)=some u:=by
 intro j u hj
 rw [Addr.add_lit,cell_of (putAll _ _ rfl)]
 simpa [row] using hj
theorem push_run {base:Nat} {X:World} {b:Nat} {rt md:Int} {es:Ents} (p:Ld) (L:Ls base X b rt md es) (hl:es.length≤1000) {a:Option Addr} {m cap:Nat} (a1:X.cell? ⟨b,2,none⟩=some (.slice a m cap)) :
  ∃ (a':Option Addr) (cap':Nat) (W5:World),(Builtin.append_ #[219,219] 219 #[.slice a m cap,.slice (some ⟨X.heap.size,0,none⟩) 1 1]).run Tryz.prog (X.alloc (.cells #[I p.n,I p.top,I p.am,I p.an] 182))=.ok (.slice a' (m + 1) cap') W5 ∧
   W5.cell? ⟨b,2,none⟩=some (.slice a m cap)∧W5.frozen? ⟨b,2,none⟩=false∧Ls base (W5.setCell ⟨b,2,none⟩ (.slice a' (m + 1) cap')) b rt md (es ++ [p])∧Fm base b X (W5.setCell ⟨b,2,none⟩ (.slice a' (m + 1) cap')):=by
 obtain ⟨i0,hi,hz0,hz1,hz2⟩:=info_parts infoL
 obtain ⟨a2,cap2,h1,own⟩:=L.hb
 have e1:X.cell? ⟨b,2,none⟩=some (.slice a2 es.length cap2):=by rw [cell_of h1];rfl
 rw [a1] at e1
 simp only [Option.some.injEq,Value.slice.injEq] at e1
 obtain ⟨rfl,rfl,rfl⟩:=e1
 have own5:=own_keep (W':=X.alloc (.cells #[I p.n,I p.top,I p.am,I p.an] 182)) own (fun k cur hc=>Below.heap_alloc X _ _ (lt_of_heap hc))
 obtain ⟨v',W5,hrun,own7,hgr,-,-⟩:=run_append_own_at (P:=Tryz.prog) (X.alloc (.cells #[I p.n,I p.top,I p.am,I p.an] 182)) base 219 219 182 i0 _ 4 32 Tryz.underlying219 hi hz0 hz1 hz2 rfl (by decide) (.slice a es.length cap) _ _ own5 ⟨X.heap.size,0,none⟩ 1 1 (row p) rfl (cells_new4 X p 182) (by intro u hu;simp [row] at hu;rcases hu with rfl | rfl | rfl | rfl <;> rfl) (by unfold maxLen;omega) (by omega) (by simp;have:=L.base_le;omega)
 obtain ⟨a',cap',rfl⟩:=own_form own7
 have hbA:(X.alloc (.cells #[I p.n,I p.top,I p.am,I p.an] 182)).heap[b]?=some (.cells #[I rt,I md,.slice a es.length cap] 221):=(Below.heap_alloc _ _ _ L.lt).trans h1
 have hb5:W5.heap[b]?=some (.cells #[I rt,I md,.slice a es.length cap] 221):=(hgr.block b (lt_of_heap hbA) (own_ne own5 hbA (by simp))).trans hbA
 have hself:∀ j,j≠b→(W5.setCell ⟨b,2,none⟩ (.slice a' (es.length + 1) cap')).heap[j]?=W5.heap[j]?:=fun j hj=>Below.heap_setCell _ _ _ _ hj
 refine ⟨a',cap',W5,hrun,by rw [cell_of hb5];rfl,frozen_of hb5 2,⟨⟨a',cap',?_,?_⟩,L.kb⟩,?_⟩
 ·rw [heap_set hb5];simp
 ·rw [List.length_append,rowsOf_append]
  refine own_keep own7 fun j cur hc=>hself j ?_
  rintro rfl
  rw [hb5] at hc
  simp at hc
 ·have b1:Below base X (X.alloc (.cells #[I p.n,I p.top,I p.am,I p.an] 182)):=((Below.refl _ X).alloc (Nat.le_refl _) _).mono L.base_le
  have b2:=below_grown b1 own5 hgr (by simp;have:=L.base_le;omega)
  refine ⟨b2.os,b2.tape,b2.output,by have:=b2.size;simp [World.setCell];omega,fun j hj=>(hself j (by have:=L.kb;omega)).trans (b2.block j hj),fun j o g1 g2 g3=>?_⟩
  have hkA:(X.alloc (.cells #[I p.n,I p.top,I p.am,I p.an] 182)).heap[j]?=some o:=(Below.heap_alloc _ _ _ (lt_of_heap g1)).trans g1
  rw [hself j g2,hgr.block j (lt_of_heap hkA) (own_ne own5 hkA g3),hkA]
def bindE (es:Ents) (am an:Int):Int:=if rootIs es am=false then 1 else if any es (isAt am an)=true then 15 else if 8≤1 + (es.length:Int) then 13 else 0
theorem bind_no (base b:Nat) (rt md am an nd k:Int) (es:Ents) (w:World) (hG:Ls base w b rt md es) (hes:es.length≤100) (hk:bindE es am an=k) (h0:k≠0) :
  Calls Tryz.prog 148 #[.pointer (some ⟨b,0,none⟩),pv am an,I nd] w fun e w'=>e=.returned (.tuple #[I 0,I k])∧Below w.heap.size w w':=by
 obtain ⟨V,hV,hs,hx,hb⟩:∃ V,w.alloc (.cells #[I am,I an] 50)=V∧V.heap.size=w.heap.size + 1∧V.heap[w.heap.size]?=some (.cells #[I am,I an] 50)∧Below w.heap.size w V:=⟨_,rfl,by simp,putAll _ _ rfl,below_alloc _ _⟩
 obtain ⟨v0,v1⟩:=cells2 hx
 have H1:=hide (root_any base b rt md am es V (hG.below hb) (by omega))
 have H2:=hide (fun W (hB:Below V.heap.size V W)=>lyingAt_any base b rt md am an es W ((hG.below hb).below hB) (by omega))
 have H3:=hide (fun W (hB:Below V.heap.size V W)=>((hG.below hb).below hB).cells)
 unfold bindE at hk
 generalize rootTop rt es am=x1 at *
 generalize rootIs es am=y1 at *
 generalize fst es (isAt am an)=x2 at *
 generalize any es (isAt am an)=y2 at *
 have HB:=hide hb
 clear hG hb
 unfold pv
 go_enter Tryz.func148,Tryz.ntmps148
 go_wp2_with fail
 refine (unhide H1).mono ?_
 rintro e w1 ⟨rfl,hB⟩
 have q:=hB.block _ (by omega:w.heap.size < V.heap.size)
 rw [hx] at q
 obtain ⟨u0,u1⟩:=cells2 q
 clear v0 v1 q hx
 cases y1 with
 | false =>
  have hE:=hide ((unhide HB).trans (hB.mono (by omega)))
  obtain rfl:1=k:=by simpa using hk
  clear hB HB H1 H2 H3 hV h0 hk
  go_wp2_with fail
  go_ret2
  exact ⟨rfl,unhide hE⟩
 | true =>
  have H2':=hide (unhide H2 w1 hB)
  have hB1:=hide hB
  clear hB H1 H2 hV
  go_wp2_with fail
  refine (unhide H2').mono ?_
  rintro e w2 ⟨rfl,hB2⟩
  have hB3:=(unhide hB1).trans (hB2.mono (unhide hB1).size)
  have hE0:=(unhide HB).trans (hB3.mono (by omega))
  have hE:=hide (hE0.alloc hE0.size (.cells #[I x2.n,I x2.top,I x2.am,I x2.an] 182))
  obtain ⟨a,cap,-,-,c2,-,-⟩:=unhide H3 w2 hB3
  have c2':=cell_alloc c2 (.cells #[I x2.n,I x2.top,I x2.am,I x2.an] 182)
  clear hB2 H2' H3 HB hB1 u0 u1 hE0 c2 hB3
  unfold lv
  cases y2 with
  | true =>
   obtain rfl:15=k:=by simpa using hk
   clear h0 hk
   go_wp2_with fail
   go_ret2
   exact ⟨rfl,unhide hE⟩
  | false =>
   have hl:8≤1 + (es.length:Int):=by
    refine Decidable.byContradiction fun h=>h0 ?_
    simp [h] at hk
    exact hk.symm
   obtain rfl:13=k:=by simpa [hl] using hk
   clear h0 hk
   have hl2:(es.length:Int) < 1000:=by omega
   generalize es.length=m at *
   go_wp2_with fail
   go_ret2
   exact ⟨rfl,unhide hE⟩
theorem bind_yes (base b:Nat) (rt md am an nd:Int) (es:Ents) (w:World) (hG:Ls base w b rt md es) (hes:es.length≤100) (hmd:-1000000 < md∧md < 1000000) (hk:bindE es am an=0) :
  Calls Tryz.prog 148 #[.pointer (some ⟨b,0,none⟩),pv am an,I nd] w fun e w'=>e=.returned (.tuple #[I (md + 1),I 0])∧Ls base w' b rt (md + 1) (es ++ [⟨md + 1,nd,am,an⟩])∧Fm base b w w':=by
 obtain ⟨V,hV,hs,hx,hb⟩:∃ V,w.alloc (.cells #[I am,I an] 50)=V∧V.heap.size=w.heap.size + 1∧V.heap[w.heap.size]?=some (.cells #[I am,I an] 50)∧Below w.heap.size w V:=⟨_,rfl,by simp,putAll _ _ rfl,below_alloc _ _⟩
 obtain ⟨v0,v1⟩:=cells2 hx
 have hbase:=hG.base_le
 have hbl:=hG.lt
 have H1:=hide (root_any base b rt md am es V (hG.below hb) (by omega))
 have H2:=hide (fun W (hB:Below V.heap.size V W)=>lyingAt_any base b rt md am an es W ((hG.below hb).below hB) (by omega))
 have H3:=hide (fun W (hB:Below V.heap.size V W)=>((hG.below hb).below hB))
 unfold bindE at hk
 generalize rootTop rt es am=x1 at *
 generalize rootIs es am=y1 at *
 generalize fst es (isAt am an)=x2 at *
 generalize any es (isAt am an)=y2 at *
 have hl:¬ 8≤1 + (es.length:Int):=by
  intro h
  cases y1 <;> cases y2 <;> simp [h] at hk
 obtain rfl:y1=true:=by cases y1 <;> simp_all
 obtain rfl:y2=false:=by cases y2 <;> simp_all
 clear hk
 have HB:=hide hb
 clear hG hb
 unfold pv
 go_enter Tryz.func148,Tryz.ntmps148
 go_wp2_with fail
 refine (unhide H1).mono ?_
 rintro e w1 ⟨rfl,hB⟩
 have q:=hB.block _ (by omega:w.heap.size < V.heap.size)
 rw [hx] at q
 obtain ⟨u0,u1⟩:=cells2 q
 clear v0 v1 hx
 have H2':=hide (unhide H2 w1 hB)
 have hB1:=hide hB
 clear hB H1 H2 hV
 go_wp2_with fail
 refine (unhide H2').mono ?_
 rintro e w2 ⟨rfl,hB2⟩
 have hB3:=(unhide hB1).trans (hB2.mono (unhide hB1).size)
 have hE0:=(unhide HB).trans (hB3.mono (by omega))
 have hE:=hide (hE0.alloc hE0.size (.cells #[I x2.n,I x2.top,I x2.am,I x2.an] 182))
 have G3:=(unhide H3 w2 hB3).alloc (.cells #[I x2.n,I x2.top,I x2.am,I x2.an] 182)
 have q2:=(Below.heap_alloc w2 (.cells #[I x2.n,I x2.top,I x2.am,I x2.an] 182) _ (by have:=hB3.size;omega)).trans ((hB2.block _ (lt_of_heap q)).trans q)
 clear hB2 H2' H3 HB hB1 u0 u1 hE0 hB3 q
 obtain ⟨W2,hW2⟩:∃ W2,w2.alloc (.cells #[I x2.n,I x2.top,I x2.am,I x2.an] 182)=W2:=⟨_,rfl⟩
 rw [hW2] at hE G3 q2
 obtain ⟨a,cap,c0,c1,c2,cf,own⟩:=G3.cells
 have cf1:=cf 1
 clear own cf
 obtain ⟨X,hX⟩:∃ X,W2.setCell ⟨b,1,none⟩ (I (md + 1))=X:=⟨_,rfl⟩
 have LX:=G3.setMade (md + 1)
 have qX:(W2.setCell ⟨b,1,none⟩ (I (md + 1))).heap[w.heap.size]?=_:=(Below.heap_setCell _ _ _ _ (by have:=hbl;simp;omega)).trans q2
 have FX:Fm base b w (W2.setCell ⟨b,1,none⟩ (I (md + 1))):=(Fm.of_below (unhide hE) hbase).set (p:=⟨b,1,none⟩) rfl G3.kb _
 rw [hX] at LX qX FX
 obtain ⟨a',cap',c0',c1',c2',cf',own'⟩:=LX.cells
 obtain ⟨a5,cap5,W5,hrun,d0,df,L5,F5⟩:=push_run ⟨md + 1,nd,am,an⟩ LX.drew (by omega) (show X.drew.cell? _=_ from c2')
 obtain ⟨r0,r1⟩:=cells2 qX
 have r0d:X.drew.cell? ⟨w.heap.size,0,none⟩=some (I am):=r0
 have r1d:X.drew.cell? ⟨w.heap.size,1,none⟩=some (I an):=r1
 have c1d:X.drew.cell? ⟨b,1,none⟩=some (I (md + 1)):=c1'
 have c2d:X.drew.cell? ⟨b,2,none⟩=_:=c2'
 have z1:(W5.setCell ⟨b,2,none⟩ (.slice a5 (es.length + 1) cap5)).cell? ⟨b,1,none⟩=some (I (md + 1)):=by
  obtain ⟨_,_,_,h,_⟩:=L5.cells
  exact h
 have c2a:=cell_alloc c2' (.cells #[I (md + 1),I nd,I am,I an] 182)
 have HL5:=hide L5
 have HF5:=hide (FX.drew.trans F5)
 clear G3 LX qX FX q2 own' L5 F5 hE r0 r1 cf' c0' c1' c2' 
 have hl2:(es.length:Int) < 1000:=by omega
 generalize es.length=m at *
 unfold lv
 go_wp2_with fail
 go_region_law (refine step_append_eq (by rfl) _ _ 219 (by rfl) 219 (by rfl) _ _ (by rfl) (by rfl) _ _ hrun ?_)
 all_goals
  clear hrun c2a c2d c1d r0d r1d c0 c1 c2
  go_wp2_with fail
  go_ret2
  exact ⟨rfl,unhide HL5,unhide HF5⟩
attribute [local go_sem ↓] Go.wp_at_zero Go.wp_at_succ
theorem idx_any (base g n cap:Nat) (es:Ents) (F x:Nat) (P:Ld→Bool) (w:World) (hn:es.length=n) (hown:w.ownsRow base 182 4 (.slice (some ⟨g,0,none⟩) n cap) n (rowsOf row es)) (hl:n≤1000) (i:Nat) (hi:es.findIdx P=i) (hin:i < n)
  (hE:∀ args w,(callFunc F args).run Tryz.prog w=.ok (.enter F args) w)
  (hF:∀ p W,Below w.heap.size w W→Calls Tryz.prog F #[lv p,.pointer (some ⟨x,0,none⟩)] W fun e W'=>e=.returned (.bool (P p))∧Below W.heap.size W W') :
  Calls Tryz.prog 227 #[.slice (some ⟨g,0,none⟩) n cap,.func (.func F) #[] #[.pointer (some ⟨x,0,none⟩)]] w fun e w'=>e=.returned (I (i:Int))∧Below w.heap.size w w':=by
 have HF:=hide hF
 have HO:=hide hown
 have HI:=hide hi
 have Hn:=hide hn
 clear hF hown hi hn
 go_enter Tryz.func227,Tryz.ntmps227
 go_wp2_with fail
 go_loopw [8] (fun v wr=>∃ k:Nat,v=I k∧k≤i∧Below w.heap.size w wr) (fun v _=>n - (intOf v).toNat)
 case atStart=>exact ⟨0,rfl,Nat.zero_le _,Below.refl _ _⟩
 case round =>
  obtain ⟨k,rfl,hk,hb⟩:=hrel
  have hkn:k < es.length:=by have:=unhide Hn;omega
  obtain ⟨p,hp⟩:∃ p,es[k]?=some p:=⟨_,List.getElem?_eq_getElem hkn⟩
  obtain ⟨g',eg,c0,c1,c2,c3,_,hgl⟩:=own_at (unhide HO) hp (unhide Hn)
  simp only [Option.some.injEq,Addr.mk.injEq,and_true] at eg
  subst eg
  have hg:=hb.block g hgl
  have d0:=(World.cell?_of_block (a:=⟨g,k * 4,none⟩) hg).trans c0
  have d1:=(World.cell?_of_block (a:=⟨g,k * 4 + 1,none⟩) hg).trans c1
  have d2:=(World.cell?_of_block (a:=⟨g,k * 4 + 2,none⟩) hg).trans c2
  have d3:=(World.cell?_of_block (a:=⟨g,k * 4 + 3,none⟩) hg).trans c3
  have j1:(k:Int) < (n:Int):=by omega
  have j0:(0:Int)≤(k:Int):=by omega
  have HC:=hide (unhide HF p wr hb)
  have hPk:Hid (P p=decide (k=i)):=by
   have hi:=unhide HI
   have he:=(List.getElem?_eq_some_iff.1 hp).2
   by_cases e:k=i
   ·subst e
    rw [decide_eq_true rfl,← he]
    subst hi
    exact List.findIdx_getElem (w:=hkn)
   ·rw [decide_eq_false e,← he]
    exact List.not_of_lt_findIdx (xs:=es) (p:=P) (i:=k) (by omega)
  have HB:=hide hb
  clear c0 c1 c2 c3 hg hb hp hkn HF HO HI Hn hgl
  by_cases e:k=i
  ·subst e
   rw [show P p=true by rw [unhide hPk];simp] at HC
   clear hPk
   go_wp2_with fail
   refine (unhide HC).mono ?_
   rintro e w1 ⟨rfl,hB⟩
   have HE:=hide ((unhide HB).trans (hB.mono (unhide HB).size))
   clear hB HC HB d0 d1 d2 d3
   go_wp2_with fail
   go_ret
   exact ⟨rfl,unhide HE⟩
  ·rw [show P p=false by rw [unhide hPk];simp [e]] at HC
   clear hPk
   go_wp2_with fail
   refine (unhide HC).mono ?_
   rintro e w1 ⟨rfl,hB⟩
   have HE:=hide ((unhide HB).trans (hB.mono (unhide HB).size))
   clear hB HC HB d0 d1 d2 d3
   go_wp2_with fail
   go_roundw
   case rel=>exact ⟨k + 1,by go_num,by omega,unhide HE⟩
   case measure=>simp [intOf];omega
theorem own_set4 {base g n cap:Nat} {es:Ents} {W:World} {i:Nat} {p q:Ld} (own:W.ownsRow base 182 4 (.slice (some ⟨g,0,none⟩) n cap) n (rowsOf row es)) (hn:es.length=n) (hi:es[i]?=some q) :
  ∃ X1 X2 X3 X4:World,(W.setCell ⟨g,i * 4,none⟩ (I p.n)=X1∧X1.setCell ⟨g,i * 4 + 1,none⟩ (I p.top)=X2∧X2.setCell ⟨g,i * 4 + 2,none⟩ (I p.am)=X3∧X3.setCell ⟨g,i * 4 + 3,none⟩ (I p.an)=X4) ∧
   (W.cell? ⟨g,i * 4,none⟩=some (I q.n)∧X1.cell? ⟨g,i * 4 + 1,none⟩=some (I q.top)∧X2.cell? ⟨g,i * 4 + 2,none⟩=some (I q.am)∧X3.cell? ⟨g,i * 4 + 3,none⟩=some (I q.an)) ∧
   (W.frozen? ⟨g,i * 4,none⟩=false∧X1.frozen? ⟨g,i * 4 + 1,none⟩=false∧X2.frozen? ⟨g,i * 4 + 2,none⟩=false∧X3.frozen? ⟨g,i * 4 + 3,none⟩=false) ∧
   X4.ownsRow base 182 4 (.slice (some ⟨g,0,none⟩) n cap) n (rowsOf row (es.set i p))∧Fr [g] W X4∧X4.heap.size=W.heap.size:=by
 obtain ⟨hl0,⟨e0,_⟩ | ⟨g',cap',cur,e0,hgb,hgg,hcap,hcm,hcs,htk⟩⟩:=own
 ·simp at e0
 simp only [Value.slice.injEq,Option.some.injEq,Addr.mk.injEq] at e0
 obtain ⟨⟨rfl,-,-⟩,-,rfl⟩:=e0
 have hin:i < n:=by have:=(List.getElem?_eq_some_iff.1 hi).1;omega
 obtain ⟨r0,r1,r2,r3⟩:=rows_at es i q hi
 have hcur:∀ (j:Nat) (u:Value),(rowsOf row es)[j]?=some u→cur[j]?=some u:=by
  intro j u hj
  have hj2:=(List.getElem?_eq_some_iff.1 hj).1
  rw [← htk] at hj
  rw [List.getElem?_take_of_lt (by omega)] at hj
  simpa using hj
 have h1:=heap_set hgg (i * 4) (I p.n)
 have h2:=heap_set h1 (i * 4 + 1) (I p.top)
 have h3:=heap_set h2 (i * 4 + 2) (I p.am)
 have h4:=heap_set h3 (i * 4 + 3) (I p.an)
 refine ⟨_,_,_,_,⟨rfl,rfl,rfl,rfl⟩,⟨?_,?_,?_,?_⟩,⟨frozen_of hgg _,frozen_of h1 _,frozen_of h2 _,frozen_of h3 _⟩,⟨?_,.inr ⟨g,cap,_,rfl,hgb,h4,hcap,hcm,?_,?_⟩⟩,?_,?_⟩
 ·rw [cell_of hgg];exact hcur _ _ r0
 ·rw [cell_of h1,Array.getElem?_setIfInBounds_ne (by omega)];exact hcur _ _ r1
 ·rw [cell_of h2,Array.getElem?_setIfInBounds_ne (by omega),Array.getElem?_setIfInBounds_ne (by omega)];exact hcur _ _ r2
 ·rw [cell_of h3,Array.getElem?_setIfInBounds_ne (by omega),Array.getElem?_setIfInBounds_ne (by omega),Array.getElem?_setIfInBounds_ne (by omega)];exact hcur _ _ r3
 ·rw [rows_len];simp;omega
 ·simpa using hcs
 ·have hf:∀ f,f < 4→i * 4 + f=4 * i + f:=by intro f _;omega
  have s0:=rowsOf_set row 4 row_length es i 0 q ⟨p.n,q.top,q.am,q.an⟩ (I p.n) hi (by omega) rfl
  have s1:=rowsOf_set row 4 row_length (es.set i ⟨p.n,q.top,q.am,q.an⟩) i 1 ⟨p.n,q.top,q.am,q.an⟩ ⟨p.n,p.top,q.am,q.an⟩ (I p.top) (get_set hi _) (by omega) rfl
  have s2:=rowsOf_set row 4 row_length (es.set i ⟨p.n,p.top,q.am,q.an⟩) i 2 ⟨p.n,p.top,q.am,q.an⟩ ⟨p.n,p.top,p.am,q.an⟩ (I p.am) (get_set hi _) (by omega) rfl
  have s3:=rowsOf_set row 4 row_length (es.set i ⟨p.n,p.top,p.am,q.an⟩) i 3 ⟨p.n,p.top,p.am,q.an⟩ p (I p.an) (get_set hi _) (by omega) rfl
  simp only [List.set_set] at s1 s2 s3
  simp only [Array.toList_setIfInBounds,List.take_set,htk]
  rw [show i * 4=4 * i + 0 by omega,show 4 * i + 0 + 1=4 * i + 1 by omega,show 4 * i + 0 + 2=4 * i + 2 by omega,show 4 * i + 0 + 3=4 * i + 3 by omega,s0,s1,s2,s3]
 ·exact ((((Fr.refl [g] W).set (a:=⟨g,i * 4,none⟩) (by simp) _).set (a:=⟨g,i * 4 + 1,none⟩) (by simp) _).set (a:=⟨g,i * 4 + 2,none⟩) (by simp) _).set (a:=⟨g,i * 4 + 3,none⟩) (by simp) _
 ·simp [World.setCell]
end Go.Proofs.YtlngeaacjbdmhaaGreat.Mt
