/-
 What a walk is told of changes and numbers that came in.
-/
import Derived.Test.YtlngeaacjbdmhaaGreatPp34
import Derived.Test.YtlngeaacjbdmhaaGreatPp37
import Derived.ProofKit
import Derived.Deep.Slices
import Derived.SliceStrings
import Derived.Deep.Grids
import Derived.Test.YtlngeaacjbdmhaaGreatPp31
import Derived.Test.YtlngeaacjbdmhaaGreatPp35
import Derived.Test.YtlngeaacjbdmhaaGreatPp24
set_option maxRecDepth 100000
set_option maxHeartbeats 1000000
namespace Go.Proofs.YtlngeaacjbdmhaaGreat.Bt
open Go.ChangeShapes Go.WideShapes Go.ChangeAt Go.RowKit Go.Deep
structure ActAt (W:World) (b o:Nat) (x:Ac):Prop where
 c0:W.cell? ⟨b,o,none⟩=some (I x.kind)
 c1:W.cell? ⟨b,o + 1,none⟩=some (I x.dir)
 c2:W.cell? ⟨b,o + 2,none⟩=some (I x.tq)
 c3:W.cell? ⟨b,o + 3,none⟩=some (I x.n)
 c4:W.cell? ⟨b,o + 4,none⟩=some (.string x.s)
 c5:W.cell? ⟨b,o + 5,none⟩=some (.string x.ad)
 c6:W.cell? ⟨b,o + 6,none⟩=some (I x.sn)
 c7:W.cell? ⟨b,o + 7,none⟩=some (I x.kd)
 c8:W.cell? ⟨b,o + 8,none⟩=some (I x.mo)
 c9:W.cell? ⟨b,o + 9,none⟩=some (I x.ui)
 c10:W.cell? ⟨b,o + 10,none⟩=some (I x.gi)
 c11:W.cell? ⟨b,o + 11,none⟩=some (I x.li)
 c12:W.cell? ⟨b,o + 12,none⟩=some (I x.si)
 c13:W.cell? ⟨b,o + 13,none⟩=some (I x.am)
 c14:W.cell? ⟨b,o + 14,none⟩=some (I x.an)
 w:x.Wd
def ActsAt (W:World) (pa:Option Addr) (len:Nat):Prop:=len≤9223372036854775807∧∀ i,i < len→∃ b off x,pa=some ⟨b,off,none⟩∧b < W.heap.size∧ActAt W b (off + i * 15) x
theorem ActAt.below {B:Nat} {W W':World} {b o:Nat} {x:Ac} (h:ActAt W b o x) (hb:b < B) (g:Below B W W'):ActAt W' b o x:=by
 have hs:=fun i=>cell_same (g.block b hb) i
 exact ⟨(hs _).trans h.c0,(hs _).trans h.c1,(hs _).trans h.c2,(hs _).trans h.c3,(hs _).trans h.c4,(hs _).trans h.c5,(hs _).trans h.c6,(hs _).trans h.c7,(hs _).trans h.c8,(hs _).trans h.c9,(hs _).trans h.c10,(hs _).trans h.c11,(hs _).trans h.c12,(hs _).trans h.c13,(hs _).trans h.c14,h.w⟩
theorem acts_of {H:Type} {enc:TypeId × Value→H} {w:World} {held:Bool} {fuel:Nat} {a:Option Addr} {len cap:Nat} {x:DataW H × List MemPlace}
  (h:DataW.trod enc Tryz.prog w 0 (fun _=>true) held fuel 53 [.slice a len cap]=some x):ActsAt w a len:=by
 rcases open_slice Tryz.underlying53 h with ⟨hcs,_⟩ | ⟨y,l,c,m,n,D,Pl,hcs,_,hl,hm,hmm,_,hx⟩
 ·simp at hcs
  obtain ⟨rfl,rfl,rfl⟩:=hcs
  exact ⟨Nat.zero_le _,fun i hi=>absurd hi (Nat.not_lt_zero _)⟩
 ·simp at hcs
  obtain ⟨rfl,rfl,rfl⟩:=hcs
  simp at hmm
  subst hmm
  have hml:=max_le
  refine ⟨by omega,fun i hi=>?_⟩
  have key:∀ j,j≤i→∃ x:Ac,w.cell? (y.add (j * 15))=some (I x.kind)∧w.cell? (y.add (j * 15 + 1))=some (I x.dir)∧w.cell? (y.add (j * 15 + 2))=some (I x.tq)∧w.cell? (y.add (j * 15 + 3))=some (I x.n)∧w.cell? (y.add (j * 15 + 4))=some (.string x.s)∧w.cell? (y.add (j * 15 + 5))=some (.string x.ad)∧w.cell? (y.add (j * 15 + 6))=some (I x.sn)∧w.cell? (y.add (j * 15 + 7))=some (I x.kd)∧w.cell? (y.add (j * 15 + 8))=some (I x.mo)∧w.cell? (y.add (j * 15 + 9))=some (I x.ui)∧w.cell? (y.add (j * 15 + 10))=some (I x.gi)∧w.cell? (y.add (j * 15 + 11))=some (I x.li)∧w.cell? (y.add (j * 15 + 12))=some (I x.si)∧w.cell? (y.add (j * 15 + 13))=some (I x.am)∧w.cell? (y.add (j * 15 + 14))=some (I x.an)∧x.Wd:=by
   intro j hj
   obtain ⟨cs',h1,h2⟩:=hx j (by omega)
   rw [cellsA] at h1
   obtain ⟨_,hlen,hcell⟩:=World.cells?_some h1
   obtain ⟨xs,k,hk,hxy,_,hxl,hf⟩:=DataW.trod_struct Tryz.underlying52 h2
   match xs,hxl,cs',hlen with
   | [y0,y1,y2,y3,y4,y5,y6,y7],_,[v0,v1,v2,v3,v4,v5,v6,v7,v8,v9,v10,v11,v12,v13,v14],_ =>
    have g0:=hf 0 _ rfl
    have g1:=hf 1 _ rfl
    have g2:=hf 2 _ rfl
    have g3:=hf 3 _ rfl
    have g4:=hf 4 _ rfl
    have g5:=hf 5 _ rfl
    have g6:=hf 6 _ rfl
    have g7:=hf 7 _ rfl
    simp [cells3,cells9,cellsS,cellsP] at g0 g1 g2 g3 g4 g5 g6 g7
    obtain ⟨n0,e0,_,m0⟩:=DataW.trod_int Tryz.underlying3 g0
    obtain ⟨n1,e1,_,m1⟩:=DataW.trod_int Tryz.underlying3 g1
    obtain ⟨n2,e2,_,m2⟩:=DataW.trod_int Tryz.underlying3 g2
    obtain ⟨n3,e3,_,m3⟩:=DataW.trod_int Tryz.underlying3 g3
    obtain ⟨t4,e4,_,m4⟩:=DataW.trod_string Tryz.underlying9 g4
    obtain ⟨t5,e5,_,m5⟩:=DataW.trod_string Tryz.underlying9 g5
    simp at e0 e1 e2 e3 e4 e5
    subst e0 e1 e2 e3 e4 e5
    obtain ⟨xs6,k6,hk6,hxy6,_,hxl6,hf6⟩:=DataW.trod_struct Tryz.underlying33 g6
    obtain ⟨xs7,k7,hk7,hxy7,_,hxl7,hf7⟩:=DataW.trod_struct Tryz.underlying50 g7
    match xs6,hxl6,xs7,hxl7 with
    | [z0,z1,z2,z3,z4,z5,z6],_,[p0,p1],_ =>
     have j0:=hf6 0 _ rfl
     have j1:=hf6 1 _ rfl
     have j2:=hf6 2 _ rfl
     have j3:=hf6 3 _ rfl
     have j4:=hf6 4 _ rfl
     have j5:=hf6 5 _ rfl
     have j6:=hf6 6 _ rfl
     have j7:=hf7 0 _ rfl
     have j8:=hf7 1 _ rfl
     simp [cells3] at j0 j1 j2 j3 j4 j5 j6 j7 j8
     obtain ⟨i0,d0,_,l0⟩:=DataW.trod_int Tryz.underlying3 j0
     obtain ⟨i1,d1,_,l1⟩:=DataW.trod_int Tryz.underlying3 j1
     obtain ⟨i2,d2,_,l2⟩:=DataW.trod_int Tryz.underlying3 j2
     obtain ⟨i3,d3,_,l3⟩:=DataW.trod_int Tryz.underlying3 j3
     obtain ⟨i4,d4,_,l4⟩:=DataW.trod_int Tryz.underlying3 j4
     obtain ⟨i5,d5,_,l5⟩:=DataW.trod_int Tryz.underlying3 j5
     obtain ⟨i6,d6,_,l6⟩:=DataW.trod_int Tryz.underlying3 j6
     obtain ⟨i7,d7,_,l7⟩:=DataW.trod_int Tryz.underlying3 j7
     obtain ⟨i8,d8,_,l8⟩:=DataW.trod_int Tryz.underlying3 j8
     simp at d0 d1 d2 d3 d4 d5 d6 d7 d8
     subst d0 d1 d2 d3 d4 d5 d6 d7 d8
     have q0:=hcell 0 (by omega)
     have q1:=hcell 1 (by omega)
     have q2:=hcell 2 (by omega)
     have q3:=hcell 3 (by omega)
     have q4:=hcell 4 (by omega)
     have q5:=hcell 5 (by omega)
     have q6:=hcell 6 (by omega)
     have q7:=hcell 7 (by omega)
     have q8:=hcell 8 (by omega)
     have q9:=hcell 9 (by omega)
     have q10:=hcell 10 (by omega)
     have q11:=hcell 11 (by omega)
     have q12:=hcell 12 (by omega)
     have q13:=hcell 13 (by omega)
     have q14:=hcell 14 (by omega)
     rw [add_add] at q0 q1 q2 q3 q4 q5 q6 q7 q8 q9 q10 q11 q12 q13 q14
     exact ⟨⟨n0,n1,n2,n3,t4,t5,i0,i1,i2,i3,i4,i5,i6,i7,i8⟩,by simpa using q0,by simpa using q1,by simpa using q2,by simpa using q3,by simpa using q4,by simpa using q5,by simpa using q6,by simpa using q7,by simpa using q8,by simpa using q9,by simpa using q10,by simpa using q11,by simpa using q12,by simpa using q13,by simpa using q14,⟨iw_of m0,iw_of m1,iw_of m2,iw_of m3,iw_of l1,iw_of l2,iw_of l3,iw_of l4,iw_of l7,iw_of l8,by simp only;omega,by simp only;omega⟩⟩
  obtain ⟨_,c0,-⟩:=key 0 (by omega)
  obtain ⟨x,q0,q1,q2,q3,q4,q5,q6,q7,q8,q9,q10,q11,q12,q13,q14,hw⟩:=key i (by omega)
  obtain ⟨b,off,sp⟩:=y
  have e:(⟨b,off,sp⟩:Addr).add (0 * 15)=⟨b,off,sp⟩:=rfl
  rw [e] at c0
  obtain rfl:=spot_none c0
  rw [addr_add] at q0 q1 q2 q3 q4 q5 q6 q7 q8 q9 q10 q11 q12 q13 q14
  exact ⟨b,off,x,rfl,lt_of_cell q0,⟨q0,by simpa [Nat.add_assoc] using q1,by simpa [Nat.add_assoc] using q2,by simpa [Nat.add_assoc] using q3,by simpa [Nat.add_assoc] using q4,by simpa [Nat.add_assoc] using q5,by simpa [Nat.add_assoc] using q6,by simpa [Nat.add_assoc] using q7,by simpa [Nat.add_assoc] using q8,by simpa [Nat.add_assoc] using q9,by simpa [Nat.add_assoc] using q10,by simpa [Nat.add_assoc] using q11,by simpa [Nat.add_assoc] using q12,by simpa [Nat.add_assoc] using q13,by simpa [Nat.add_assoc] using q14,hw⟩⟩
end Go.Proofs.YtlngeaacjbdmhaaGreat.Bt
namespace Go.Proofs.YtlngeaacjbdmhaaGreat.Wl
open Go.RowKit
attribute [local go_sem ↓] Go.wp_at_zero Go.wp_at_succ
structure Pw (w W:World) (t m:Nat) (T:Tr) (B N:Nat):Prop where
 q:Tq w.heap.size N W t T B
 ls:∃ mb,Mt.Ls mb W m 1 0 []
 be:Below w.heap.size w W
section
variable {w W W':World} {t m:Nat} {T:Tr} {B N:Nat}
theorem Pw.below (s:Pw w W t m T B N) (g:Below W.heap.size W W'):Pw w W' t m T B N:=⟨s.q.below g,let ⟨mb,h⟩:=s.ls;⟨mb,h.below g⟩,s.be.trans (g.mono s.be.size)⟩
theorem Pw.alloc (s:Pw w W t m T B N) (o:Obj):Pw w (W.alloc o) t m T B N:=s.below ((Below.refl _ W).alloc (Nat.le_refl _) o)
theorem walk_P (s:Pw w W t m T B N) (hB:B≤880) (path:Bytes) {F:Fd} {wy:Int} {ne:Option Pa} {x y:Int} {st:Nat} (hR:(E0 T).walk 0 1 path=⟨ne,F,wy,x,y,st⟩) :
  Calls Tryz.prog 27 #[P0 t,P0 m,.agg #[I 0,I 1],.agg #[I 0,I 1],.agg #[I 0,I 0],.string (bs path),.bool true] W fun e w'=>e=.returned (.tuple #[.agg #[I F.dm,I F.dn,.string (bs F.last),I F.am,I F.an,.bool F.has,.bool F.slash],I wy])∧Hid (Below W.heap.size W w'):=by
 obtain ⟨mb,ls⟩:=s.ls
 exact (Walk_any (Wd.of s.q hB ls) 0 1 (show (kl 1).wf=true by decide) (by decide) path _ hR)
theorem make_P (s:Pw w W t m T B N) (hB:B≤878) (n:ByteArray) (kind mode:Int) (text:ByteArray) (hz:text.size≤281474976710656) (x y:Int) (T':Tr) (hx:T.makeN 1 n kind text=x) (hy:T.makeE 1 n kind text=y) (hT:T.make 1 n kind mode 0 0 text=T') :
  Calls Tryz.prog 62 #[P0 t,I 1,.string n,stV 0 kind mode 0 0 0 0,.string text] W fun e w'=>e=.returned (.tuple #[I x,I y])∧Hid (Pw w w' t m T' (B + 2) N):=by
 refine (make_Q s.q (by omega) (by decide) n 0 kind mode 0 0 0 0 text hz x y T' hx hy hT).mono ?_
 rintro e w' ⟨rfl,h1,h2⟩
 obtain ⟨mb,ls⟩:=s.ls
 exact ⟨rfl,⟨unhide h1,⟨mb,Ls_tx ls (unhide h2)⟩,s.be.trans (unhide h2).bel⟩⟩
theorem new_P (w:World) (nodes:Nat) (hn:1≤nodes∧nodes≤64) :
  Calls Tryz.prog 16 #[I (nodes:Int),I 0] w fun e w'=>∃ t,e=.returned (.tuple #[P0 t,I 0])∧Hid (Tq w.heap.size 0 w' t (Tr.new nodes 0) 1∧Below w.heap.size w w'):=by
 refine (new_Q nodes 0 hn (by omega) w).mono ?_
 rintro e w' ⟨t,rfl,h1,h2⟩
 exact ⟨t,rfl,unhide h1,unhide h2⟩
theorem newm_P {w1:World} (h:Tq w.heap.size N w1 t T B∧Below w.heap.size w w1) :
  Calls Tryz.prog 96 #[I 1] w1 fun e w'=>e=.returned (P0 w1.heap.size)∧Hid (Pw w w' t w1.heap.size T B N):=by
 refine (Mt.new_any 1 w1).mono ?_
 rintro e w' ⟨rfl,h1,h2⟩
 exact ⟨rfl,h.1.below h2,⟨_,h1⟩,h.2.trans (h2.mono h.2.size)⟩
end
theorem known_any (w:World):Calls Tryz.prog 33 #[] w fun e w'=>e=.returned (.bool true)∧Below w.heap.size w w':=by
 have H0:=hide (new_P w 9 (by omega))
 have HT:=hide top_any
 go_enter Tryz.func33,Tryz.ntmps33
 go_wp2_with fail
 refine (unhide H0).mono ?_
 rintro e w1 ⟨t,rfl,T1⟩
 clear H0
 go_wp2_with fail
 refine (newm_P (unhide T1)).mono ?_
 rintro e w2 ⟨rfl,P2⟩
 generalize w1.heap.size=m at *
 go_wp2_with fail
 refine (unhide HT w2).mono ?_
 rintro e w3 ⟨rfl,hB3⟩
 have P3:=hide ((unhide P2).below hB3)
 clear hB3 P2
 go_wp2_with fail
 refine (unhide HT w3).mono ?_
 rintro e w4 ⟨rfl,hB4⟩
 have P4:=hide ((unhide P3).below hB4)
 clear hB4 P3
 go_wp2_with fail
 refine (walk_P (unhide P4) (by omega) [47,97,47,98] known_1).mono ?_
 rintro e w5 ⟨rfl,hB5⟩
 have P5:=hide (((unhide P4).below (unhide hB5)).alloc (.cells #[I 0,I 0,.string (bs []),I 0,I 0,.bool false,.bool false] 59))
 clear hB5 P4
 simp only [Fd.none]
 go_wp2_with fail
 refine (make_P (unhide P5) (by omega) ⟨#[97]⟩ 1 0 ⟨#[]⟩ (by decide) 2 0 T9a known_n.1 known_n.2 rfl).mono ?_
 rintro e w7 ⟨rfl,P7⟩
 clear P5
 go_wp2_with fail
 refine (unhide HT w7).mono ?_
 rintro e w8 ⟨rfl,hB8⟩
 have P8:=hide ((unhide P7).below hB8)
 clear hB8 P7
 go_wp2_with fail
 refine (unhide HT w8).mono ?_
 rintro e w9 ⟨rfl,hB9⟩
 have P9:=hide ((unhide P8).below hB9)
 clear hB9 P8
 go_wp2_with fail
 refine (walk_P (unhide P9) (by omega) [47,97,47,98] known_2).mono ?_
 rintro e wa ⟨rfl,hBa⟩
 have Pa':=hide (((unhide P9).below (unhide hBa)).alloc (.cells #[I 0,I 2,.string (bs [98]),I 0,I 0,.bool false,.bool false] 59))
 clear hBa P9
 simp only []
 obtain ⟨wb,hwb,gb⟩:∃ wb,wa.alloc (.cells #[I 0,I 2,.string (bs [98]),I 0,I 0,.bool false,.bool false] 59)=wb∧wb.heap[wa.heap.size]?=some (.cells #[I 0,I 2,.string (bs [98]),I 0,I 0,.bool false,.bool false] 59):=⟨_,rfl,heap_alloc_new _ _⟩
 rw [hwb] at Pa'
 have HGb:=hide gb
 have HWb:=hide hwb
 clear gb hwb
 go_wp2_with fail
 rw [unhide HWb]
 refine (unhide HT wb).mono ?_
 rintro e wc ⟨rfl,hBc⟩
 have Pc:=hide (⟨(unhide Pa').below hBc,(hBc.block _ (lt_of_heap (unhide HGb))).trans (unhide HGb)⟩:_∧_)
 clear hBc Pa' HGb HWb
 go_wp2_with fail
 refine (unhide HT wc).mono ?_
 rintro e wd ⟨rfl,hBd⟩
 have Pd:=hide (⟨(unhide Pc).1.below hBd,(hBd.block _ (lt_of_heap (unhide Pc).2)).trans (unhide Pc).2⟩:_∧_)
 clear hBd Pc
 go_wp2_with fail
 refine (walk_P (unhide Pd).1 (by omega) [47,46,46] known_3).mono ?_
 rintro e we ⟨rfl,hBe⟩
 simp only []
 obtain ⟨wf,hwf,gf,hBf⟩:∃ wf,we.alloc (.cells #[I 0,I 1,.string (bs []),I 0,I 1,.bool true,.bool false] 59)=wf∧wf.heap[we.heap.size]?=some (.cells #[I 0,I 1,.string (bs []),I 0,I 1,.bool true,.bool false] 59)∧Below we.heap.size we wf:=⟨_,rfl,heap_alloc_new _ _,(Below.refl _ _).alloc (Nat.le_refl _) _⟩
 have hBdf:=(unhide hBe).trans (hBf.mono (unhide hBe).size)
 have Pf:=(unhide Pd).1.below hBdf
 have gaf:=(hBdf.block _ (lt_of_heap (unhide Pd).2)).trans (unhide Pd).2
 obtain ⟨x0,x1,x2,x3,x4,x5,x6,-⟩:=cells7 gaf
 obtain ⟨y0,y1,y2,y3,y4,y5,y6,-⟩:=cells7 gf
 have HPf:=hide Pf
 have HTf:=hide (unhide HT wf.drew)
 have HWf:=hide hwf
 clear hBe Pd gf hBf hBdf Pf gaf hwf
 go_wp2_with fail
 rw [unhide HWf]
 go_region_held3 (fun w'=>w'.cell? ⟨wa.heap.size,0,none⟩=some (I 0)∧w'.cell? ⟨wa.heap.size,1,none⟩=some (I 2)∧w'.cell? ⟨wa.heap.size,2,none⟩=some (.string (bs [98]))∧w'.cell? ⟨wa.heap.size,3,none⟩=some (I 0)∧w'.cell? ⟨wa.heap.size,4,none⟩=some (I 0)∧w'.cell? ⟨wa.heap.size,5,none⟩=some (.bool false)∧w'.cell? ⟨wa.heap.size,6,none⟩=some (.bool false)∧w'.cell? ⟨we.heap.size,2,none⟩=some (.string (bs []))∧w'.cell? ⟨we.heap.size,3,none⟩=some (I 0)∧w'.cell? ⟨we.heap.size,4,none⟩=some (I 1)∧w'.cell? ⟨we.heap.size,5,none⟩=some (.bool true)) (go_keep)
  (first
   | (go_at_call 28;refine (unhide HTf).mono ?_;rintro e wg ⟨rfl,hBg⟩;have HBg:=hide hBg;clear hBg;have a0:=cell_be (W:=wf.drew) x0 (unhide HBg);have a1:=cell_be (W:=wf.drew) x1 (unhide HBg);have a2:=cell_be (W:=wf.drew) x2 (unhide HBg);have a3:=cell_be (W:=wf.drew) x3 (unhide HBg);have a4:=cell_be (W:=wf.drew) x4 (unhide HBg);have a5:=cell_be (W:=wf.drew) x5 (unhide HBg);have a6:=cell_be (W:=wf.drew) x6 (unhide HBg);have b2:=cell_be (W:=wf.drew) y2 (unhide HBg);have b3:=cell_be (W:=wf.drew) y3 (unhide HBg);have b4:=cell_be (W:=wf.drew) y4 (unhide HBg);have b5:=cell_be (W:=wf.drew) y5 (unhide HBg)))
 go_wp2_with fail
 go_ret
 exact ⟨rfl,((unhide HPf).below ((below_drew (Below.refl _ _)).trans (unhide HBg))).be⟩
end Go.Proofs.YtlngeaacjbdmhaaGreat.Wl
namespace Go.Proofs.YtlngeaacjbdmhaaGreat.Bt
open Go.RowKit
theorem act_cells {W W':World} {B b o:Nat} {x:Ac} (h:ActAt W b o x) (hb:b < B) (g:Below B W W'):W'.cell? ⟨b,o,none⟩=some (I x.kind)∧W'.cell? ⟨b,o + 1,none⟩=some (I x.dir)∧W'.cell? ⟨b,o + 2,none⟩=some (I x.tq)∧W'.cell? ⟨b,o + 3,none⟩=some (I x.n)∧W'.cell? ⟨b,o + 4,none⟩=some (.string x.s)∧W'.cell? ⟨b,o + 5,none⟩=some (.string x.ad)∧W'.cell? ⟨b,o + 6,none⟩=some (I x.sn)∧W'.cell? ⟨b,o + 7,none⟩=some (I x.kd)∧W'.cell? ⟨b,o + 8,none⟩=some (I x.mo)∧W'.cell? ⟨b,o + 9,none⟩=some (I x.ui)∧W'.cell? ⟨b,o + 10,none⟩=some (I x.gi)∧W'.cell? ⟨b,o + 11,none⟩=some (I x.li)∧W'.cell? ⟨b,o + 12,none⟩=some (I x.si)∧W'.cell? ⟨b,o + 13,none⟩=some (I x.am)∧W'.cell? ⟨b,o + 14,none⟩=some (I x.an):=by
 have:=h.below hb g
 exact ⟨this.c0,this.c1,this.c2,this.c3,this.c4,this.c5,this.c6,this.c7,this.c8,this.c9,this.c10,this.c11,this.c12,this.c13,this.c14⟩
theorem cellsF {W:World} {b:Nat} {ty:TypeId} {v0 v1 v2 v3 v4 v5 v6:Value} (h:W.heap[b]?=some (.cells #[v0,v1,v2,v3,v4,v5,v6] ty)):W.cell? ⟨b,0,none⟩=some v0∧W.cell? ⟨b,1,none⟩=some v1∧W.cell? ⟨b,2,none⟩=some v2∧W.cell? ⟨b,3,none⟩=some v3∧W.cell? ⟨b,4,none⟩=some v4∧W.cell? ⟨b,5,none⟩=some v5∧W.cell? ⟨b,6,none⟩=some v6∧∀ i,W.frozen? ⟨b,i,none⟩=false:=by
 refine ⟨?_,?_,?_,?_,?_,?_,?_,frozen_of h⟩ <;> (rw [cell_of h];rfl)
end Go.Proofs.YtlngeaacjbdmhaaGreat.Bt
namespace Go.Proofs.YtlngeaacjbdmhaaGreat.Mt
open Go.RowKit
attribute [local go_sem ↓] Go.wp_at_zero Go.wp_at_succ
theorem within_any (v hi:Int) (w:World) (h0:0≤hi) (h1:hi≤1000) :
  Calls Tryz.prog 23 #[.int .i64 v,.int .i64 0,.int .i64 hi] w fun e w'=>(∃ r:Int,(0≤r∧r≤hi)∧e=.returned (I r))∧w'=w:=by
 have t1:v.tmod (hi + 1) < hi + 1:=Int.tmod_lt_of_pos v (by omega)
 have t2:-(hi + 1) < v.tmod (hi + 1):=by
  have h:=Int.tmod_lt_of_pos (-v) (show 0 < hi + 1 by omega)
  rw [Int.neg_tmod] at h
  omega
 have t3:¬ hi + 1=0:=by omega
 by_cases hn:v.tmod (hi + 1) < 0
 ·go_enter Tryz.func23,Tryz.ntmps23
  go_wp2
  go_ret
  exact ⟨⟨v.tmod (hi + 1) + hi + 1,by omega,rfl⟩,rfl⟩
 ·go_enter Tryz.func23,Tryz.ntmps23
  go_wp2
  go_ret
  exact ⟨⟨v.tmod (hi + 1),by omega,rfl⟩,rfl⟩
end Go.Proofs.YtlngeaacjbdmhaaGreat.Mt
namespace Go.Proofs.YtlngeaacjbdmhaaGreat.Bt
open Go.ChangeShapes Go.WideShapes Go.ChangeAt Go.RowKit Go.Deep
theorem cellsI:Tryz.prog.cellsOf 72=1:=by kernel_rfl
def IntssAt (W:World) (pa:Option Addr) (len:Nat):Prop:=len≤9223372036854775807∧∀ i,i < len→∃ b off a n c,pa=some ⟨b,off,none⟩∧b < W.heap.size∧W.cell? ⟨b,off + i,none⟩=some (.slice a n c)∧IntsAt W a n
theorem IntssAt.below {W W':World} {pa:Option Addr} {len:Nat} (h:IntssAt W pa len) (g:Below W.heap.size W W'):IntssAt W' pa len :=
 ⟨h.1,fun i hi=>by
  obtain ⟨b,off,a,n,c,h1,h2,h3,h4⟩:=h.2 i hi
  exact ⟨b,off,a,n,c,h1,Nat.lt_of_lt_of_le h2 g.size,(cell_same (g.block b h2) _).trans h3,h4.below g⟩⟩
theorem row_of {H:Type} {enc:TypeId × Value→H} {w:World} {held:Bool} {fuel:Nat} {cs:List Value} {x:DataW H × List MemPlace}
  (h:DataW.trod enc Tryz.prog w 0 (fun _=>true) held fuel 72 cs=some x):∃ a n c,cs=[.slice a n c]∧IntsAt w a n:=by
 have h':=h
 rcases open_slice Tryz.underlying72 h with ⟨hcs,_⟩ | ⟨y,l,c,m,n,D,Pl,hcs,_⟩
 ·rw [hcs] at h'
  exact ⟨_,_,_,hcs,ints_of h'⟩
 ·rw [hcs] at h'
  exact ⟨_,_,_,hcs,ints_of h'⟩
theorem intss_of {H:Type} {enc:TypeId × Value→H} {w:World} {held:Bool} {fuel:Nat} {a:Option Addr} {len cap:Nat} {x:DataW H × List MemPlace}
  (h:DataW.trod enc Tryz.prog w 0 (fun _=>true) held fuel 69 [.slice a len cap]=some x):IntssAt w a len:=by
 rcases open_slice Tryz.underlying69 h with ⟨hcs,_⟩ | ⟨y,l,c,m,n,D,Pl,hcs,_,hl,hm,hmm,_,hx⟩
 ·simp at hcs
  obtain ⟨rfl,rfl,rfl⟩:=hcs
  exact ⟨Nat.zero_le _,fun i hi=>absurd hi (Nat.not_lt_zero _)⟩
 ·simp at hcs
  obtain ⟨rfl,rfl,rfl⟩:=hcs
  simp at hmm
  subst hmm
  have hml:=max_le
  refine ⟨by omega,fun i hi=>?_⟩
  have key:∀ j,j≤i→∃ a n c,w.cell? (y.add j)=some (.slice a n c)∧IntsAt w a n:=by
   intro j hj
   obtain ⟨cs',h1,h2⟩:=hx j (by omega)
   rw [cellsI] at h1
   obtain ⟨_,hlen,hcell⟩:=World.cells?_some h1
   obtain ⟨a,n,c,rfl,hi⟩:=row_of h2
   have q0:=hcell 0 (by omega)
   rw [add_add] at q0
   exact ⟨a,n,c,by simpa using q0,hi⟩
  obtain ⟨_,_,_,c0,-⟩:=key 0 (by omega)
  obtain ⟨a,n,c,q0,hv⟩:=key i (by omega)
  obtain ⟨b,off,sp⟩:=y
  have e:(⟨b,off,sp⟩:Addr).add 0=⟨b,off,sp⟩:=rfl
  rw [e] at c0
  obtain rfl:=spot_none c0
  rw [addr_add] at q0
  exact ⟨b,off,a,n,c,rfl,lt_of_cell q0,q0,hv⟩
attribute [local go_sem ↓] Go.wp_at_zero Go.wp_at_succ
structure Cw (V W:World) (L:List (Nat × Array Value × TypeId)):Prop where
 be:Below V.heap.size V W
 l:∀ c ∈ L,W.heap[c.1]?=some (.cells c.2.1 c.2.2)∧V.heap.size≤c.1
 nd:(L.map (·.1)).Nodup
section
variable {V W W':World} {L:List (Nat × Array Value × TypeId)}
theorem Cw.nil (V:World):Cw V V []:=⟨Below.refl _ _,by simp,by simp⟩
theorem Cw.below (h:Cw V W L) (g:Below W.heap.size W W'):Cw V W' L:=⟨h.be.trans (g.mono h.be.size),fun c hc=>⟨(g.block _ (lt_of_heap (h.l c hc).1)).trans (h.l c hc).1,(h.l c hc).2⟩,h.nd⟩
theorem Cw.drew (h:Cw V W L):Cw V W.drew L:=h.below ⟨rfl,rfl,rfl,Nat.le_refl _,fun _ _=>rfl⟩
theorem Cw.more {cs:Array Value} {ty:TypeId} (h:Cw V W L):Cw V (W.alloc (.cells cs ty)) ((W.heap.size,cs,ty) :: L):=by
 have h1:=h.below (W':=W.alloc (.cells cs ty)) ((Below.refl _ W).alloc (Nat.le_refl _) _)
 refine ⟨h1.be,fun c hc=>?_,?_⟩
 ·rcases List.mem_cons.1 hc with rfl | hc
  ·exact ⟨heap_alloc_new W _,h.be.size⟩
  ·exact h1.l c hc
 ·rw [List.map_cons,List.nodup_cons]
  refine ⟨fun hm=>?_,h.nd⟩
  obtain ⟨c,hc,e⟩:=List.mem_map.1 hm
  have:=lt_of_heap (h.l c hc).1
  simp only at e
  omega
theorem cw_new {cs:Array Value} {ty:TypeId} (h:Cw V W L) (g:Below (W.alloc (.cells cs ty)).heap.size (W.alloc (.cells cs ty)) W'):Cw V W' ((W.heap.size,cs,ty) :: L):=h.more.below g
theorem cw_new_d {cs:Array Value} {ty:TypeId} (h:Cw V W L) (g:Below (W.drew.alloc (.cells cs ty)).heap.size (W.drew.alloc (.cells cs ty)) W'):Cw V W' ((W.heap.size,cs,ty) :: L):=by
 have:=cw_new h.drew g
 exact this
theorem cw_alloc {cs:Array Value} {ty:TypeId} (h:Cw V W L):∃ A0,W.alloc (.cells cs ty)=A0∧Cw V A0 ((W.heap.size,cs,ty) :: L):=⟨_,rfl,h.more⟩
theorem Cw.drop {c:Nat × Array Value × TypeId} (h:Cw V W (c :: L)):Cw V W L:=⟨h.be,fun d hd=>h.l d (List.mem_cons_of_mem _ hd),by have:=h.nd;rw [List.map_cons,List.nodup_cons] at this;exact this.2⟩
theorem Cw.turn {q:Nat} {cs cs':Array Value} {ty:TypeId} (h:Cw V W ((q,cs,ty) :: L)) (F:Fr [q] W W') (hq:W'.heap[q]?=some (.cells cs' ty)):Cw V W' ((q,cs',ty) :: L):=by
 obtain ⟨h1,h3⟩:=h.l _ (List.mem_cons_self ..)
 simp only at h1 h3
 have hnd:=h.nd
 rw [List.map_cons,List.nodup_cons] at hnd
 refine ⟨h.be.trans (F.base (B:=V.heap.size) h.be.size (by simp;omega)),fun c hc=>?_,?_⟩
 ·rcases List.mem_cons.1 hc with rfl | hc
  ·exact ⟨hq,h3⟩
  ·obtain ⟨g1,g3⟩:=h.l c (List.mem_cons_of_mem _ hc)
   refine ⟨(F.blk c.1 (lt_of_heap g1) ?_).trans g1,g3⟩
   simp
   rintro e
   exact hnd.1 (List.mem_map.2 ⟨c,hc,e⟩)
 ·rw [List.map_cons,List.nodup_cons]
  exact hnd
theorem Cw.store7 {q:Nat} {z0 z1 z2 z3 z4 z5 z6:Value} {ty:TypeId} (h:Cw V W ((q,#[z0,z1,z2,z3,z4,z5,z6],ty) :: L)) (v0 v1 v2 v3 v4 v5 v6:Value) :
  ∃ X1 X2 X3 X4 X5 X6 X7:World,(W.setCell ⟨q,0,none⟩ v0=X1∧X1.setCell ⟨q,1,none⟩ v1=X2∧X2.setCell ⟨q,2,none⟩ v2=X3∧X3.setCell ⟨q,3,none⟩ v3=X4∧X4.setCell ⟨q,4,none⟩ v4=X5∧X5.setCell ⟨q,5,none⟩ v5=X6∧X6.setCell ⟨q,6,none⟩ v6=X7)∧(W.cell? ⟨q,0,none⟩=some z0∧X1.cell? ⟨q,1,none⟩=some z1∧X2.cell? ⟨q,2,none⟩=some z2∧X3.cell? ⟨q,3,none⟩=some z3∧X4.cell? ⟨q,4,none⟩=some z4∧X5.cell? ⟨q,5,none⟩=some z5∧X6.cell? ⟨q,6,none⟩=some z6)∧(W.frozen? ⟨q,0,none⟩=false∧X1.frozen? ⟨q,1,none⟩=false∧X2.frozen? ⟨q,2,none⟩=false∧X3.frozen? ⟨q,3,none⟩=false∧X4.frozen? ⟨q,4,none⟩=false∧X5.frozen? ⟨q,5,none⟩=false∧X6.frozen? ⟨q,6,none⟩=false)∧Hid (Cw V X7 ((q,#[v0,v1,v2,v3,v4,v5,v6],ty) :: L)):=by
 have hq:=(h.l _ (List.mem_cons_self ..)).1
 simp only at hq
 obtain ⟨X1,e1,g1⟩:∃ X,W.setCell ⟨q,0,none⟩ v0=X∧X.heap[q]?=some (.cells #[v0,z1,z2,z3,z4,z5,z6] ty):=⟨_,rfl,by rw [heap_set hq];rfl⟩
 obtain ⟨X2,e2,g2⟩:∃ X,X1.setCell ⟨q,1,none⟩ v1=X∧X.heap[q]?=some (.cells #[v0,v1,z2,z3,z4,z5,z6] ty):=⟨_,rfl,by rw [heap_set g1];rfl⟩
 obtain ⟨X3,e3,g3⟩:∃ X,X2.setCell ⟨q,2,none⟩ v2=X∧X.heap[q]?=some (.cells #[v0,v1,v2,z3,z4,z5,z6] ty):=⟨_,rfl,by rw [heap_set g2];rfl⟩
 obtain ⟨X4,e4,g4⟩:∃ X,X3.setCell ⟨q,3,none⟩ v3=X∧X.heap[q]?=some (.cells #[v0,v1,v2,v3,z4,z5,z6] ty):=⟨_,rfl,by rw [heap_set g3];rfl⟩
 obtain ⟨X5,e5,g5⟩:∃ X,X4.setCell ⟨q,4,none⟩ v4=X∧X.heap[q]?=some (.cells #[v0,v1,v2,v3,v4,z5,z6] ty):=⟨_,rfl,by rw [heap_set g4];rfl⟩
 obtain ⟨X6,e6,g6⟩:∃ X,X5.setCell ⟨q,5,none⟩ v5=X∧X.heap[q]?=some (.cells #[v0,v1,v2,v3,v4,v5,z6] ty):=⟨_,rfl,by rw [heap_set g5];rfl⟩
 obtain ⟨X7,e7,g7⟩:∃ X,X6.setCell ⟨q,6,none⟩ v6=X∧X.heap[q]?=some (.cells #[v0,v1,v2,v3,v4,v5,v6] ty):=⟨_,rfl,by rw [heap_set g6];rfl⟩
 have F:Fr [q] W X7:=by
  rw [← e7,← e6,← e5,← e4,← e3,← e2,← e1]
  exact (((((((Fr.refl _ W).set (a:=⟨q,0,none⟩) (by simp) _).set (a:=⟨q,1,none⟩) (by simp) _).set (a:=⟨q,2,none⟩) (by simp) _).set (a:=⟨q,3,none⟩) (by simp) _).set (a:=⟨q,4,none⟩) (by simp) _).set (a:=⟨q,5,none⟩) (by simp) _).set (a:=⟨q,6,none⟩) (by simp) _
 exact ⟨X1,X2,X3,X4,X5,X6,X7,⟨e1,e2,e3,e4,e5,e6,e7⟩,⟨by rw [cell_of hq];rfl,by rw [cell_of g1];rfl,by rw [cell_of g2];rfl,by rw [cell_of g3];rfl,by rw [cell_of g4];rfl,by rw [cell_of g5];rfl,by rw [cell_of g6];rfl⟩,⟨frozen_of hq 0,frozen_of g1 1,frozen_of g2 2,frozen_of g3 3,frozen_of g4 4,frozen_of g5 5,frozen_of g6 6⟩,hide (h.turn F g7)⟩
end
section
variable {t m r R l0 l1 B:Nat} {K:Int} {w W W':World} {T:Tr} {M:Mt.T} {rs:List Mt.Rm}
theorem Bx.rd (s:Bx t m r R l0 l1 B K w W T T M M rs) (hB:B≤860) (hK:K≤90) (hi:∀ p ∈ M.es,(kl p.top).wf=true∧(kl p.an).wf=true) (cu cg:Int) (fo:Bool):Wl.Rd l1 R W r (Eb T M cu cg fo) rs :=
 ⟨s.d,s.f.mono (by omega),s.b,s.rt,s.mf.mono hK,hi⟩
theorem Inv.wfs (hi:Inv T M):∀ p ∈ M.es,(kl p.top).wf=true∧(kl p.an).wf=true:=fun p hp=>by
 obtain ⟨h1,h2⟩:=hi.m p hp
 exact ⟨wf_of (by omega),wf_of (by omega)⟩
theorem rwalk_B {cu cg:Int} {fo:Bool} (D:Wl.Rd l1 R W r (Eb T M cu cg fo) rs) (gm gn:Int) (hf:(kl gn).wf=true) (p:ByteArray) (Z:Wl.Re) (hZ:(Eb T M cu cg fo).walk gm gn p.data.toList=Z) :
  Calls Tryz.prog 29 #[P0 r,P0 (R + 1),.agg #[I 0,I 1],.agg #[I gm,I gn],.agg #[I cu,I cg],.string p,.bool fo] W fun e w'=>e=.returned (.tuple #[.agg #[I Z.f.dm,I Z.f.dn,.string (Wl.bs Z.f.last),I Z.f.am,I Z.f.an,.bool Z.f.has,.bool Z.f.slash],I Z.why,I (Z.steps:Int)])∧Below W.heap.size W w' :=
 Wl.rwalk_any D gm gn (show (kl (1:Int)).wf=true by decide) hf p.data.toList Z hZ
end
theorem same_any (a b d e:Int) (s:ByteArray) (x y:Bool) (w:World) :
  Calls Tryz.prog 30 #[.agg #[I a,I b,.string s,I d,I e,.bool x,.bool y],.agg #[I a,I b,.string s,I d,I e,.bool x,.bool y]] w fun e w'=>e=.returned (.bool true)∧Below w.heap.size w w':=by
 obtain ⟨V,hV,g1,g2,hB,hs⟩:=Wl.two_new w (.cells #[I a,I b,.string s,I d,I e,.bool x,.bool y] 59) (.cells #[I a,I b,.string s,I d,I e,.bool x,.bool y] 63)
 obtain ⟨r0,r1,r2,r3,r4,r5,r6,-⟩:=cells7 g1
 obtain ⟨z0,z1,z2,z3,z4,z5,z6,-⟩:=cells7 g2
 have HB:=hide hB
 clear g1 g2 hB hs
 go_enter Tryz.func30,Tryz.ntmps30
 go_wp2_with fail
 go_ret
 exact ⟨rfl,unhide HB⟩
theorem bw_cells2 {t m r R l0 l1 yb yc yf B:Nat} {cu cg fm fn K:Int} {w W:World} {L:List (Nat × Array Value × TypeId)} (h:∃ T' M' rs',Inv T' M'∧Bw t m r R l0 l1 yb yc yf cu cg fm fn B K w W T' M' rs' L):(W.cell? ⟨yb,0,none⟩=some (P0 t)∧W.cell? ⟨yb,1,none⟩=some (P0 m)∧W.cell? ⟨yb,2,none⟩=some (P0 r)∧W.cell? ⟨yb,3,none⟩=some (P0 (R + 1)))∧Below w.heap.size w W:=by
 obtain ⟨T',M',rs',-,h⟩:=h
 exact ⟨h.cells.1,h.s.be⟩
theorem cw_two {V W:World} {q1 q2:Nat} {u0 u1 u2 u3 u4 u5 u6 v0 v1 v2 v3 v4 v5 v6:Value} {t1 t2:TypeId} (h:Cw V W [(q2,#[v0,v1,v2,v3,v4,v5,v6],t2),(q1,#[u0,u1,u2,u3,u4,u5,u6],t1)]):W.cell? ⟨q1,0,none⟩=some u0∧W.cell? ⟨q1,1,none⟩=some u1∧W.cell? ⟨q1,2,none⟩=some u2∧W.cell? ⟨q1,3,none⟩=some u3∧W.cell? ⟨q1,4,none⟩=some u4∧W.cell? ⟨q1,5,none⟩=some u5∧W.cell? ⟨q1,6,none⟩=some u6∧W.cell? ⟨q2,0,none⟩=some v0∧W.cell? ⟨q2,1,none⟩=some v1∧W.cell? ⟨q2,2,none⟩=some v2∧W.cell? ⟨q2,3,none⟩=some v3∧W.cell? ⟨q2,4,none⟩=some v4∧W.cell? ⟨q2,5,none⟩=some v5∧W.cell? ⟨q2,6,none⟩=some v6:=by
 obtain ⟨a0,a1,a2,a3,a4,a5,a6,-⟩:=cellsF (h.l (q1,#[u0,u1,u2,u3,u4,u5,u6],t1) (by simp)).1
 obtain ⟨b0,b1,b2,b3,b4,b5,b6,-⟩:=cellsF (h.l (q2,#[v0,v1,v2,v3,v4,v5,v6],t2) (by simp)).1
 exact ⟨a0,a1,a2,a3,a4,a5,a6,b0,b1,b2,b3,b4,b5,b6⟩
end Go.Proofs.YtlngeaacjbdmhaaGreat.Bt
