/-
 The contracts of numbered,lyingAt,Root,Covered,Up.
-/
import Derived.Test.YtlngeaacjbdmhaaGreatPp12
import Derived.WalkKit
import Derived.Test.YtlngeaacjbdmhaaGreatRows
import Derived.Test.YtlngeaacjbdmhaaGreatPp03
import Derived.WalkSpells
import Derived.Deep.RegionHeld3
import Derived.Deep.DrawnRows
import Derived.Deep.QuietTactic
import Derived.BigQuiet
import Derived.Deep.OwnRows
import Derived.Laws.CopyOwn
import Derived.ArgAppend
set_option maxRecDepth 100000
set_option maxHeartbeats 1000000
namespace Go.Proofs.YtlngeaacjbdmhaaGreat.Mt
open Go.RowKit
attribute [local go_sem ↓] Go.wp_at_zero Go.wp_at_succ
def isN (m:Int):Ld→Bool:=fun p=>decide (p.n=m)
def isM (m:Int):Ld→Bool:=fun p=>decide (p.am=m)
def isAt (m n:Int):Ld→Bool:=fun p=>decide (p.am=m∧p.an=n)
theorem Ls.alloc {base:Nat} {W:World} {b:Nat} {rt md:Int} {es:Ents} (h:Ls base W b rt md es) (o:Obj):Ls base (W.alloc o) b rt md es:=h.below (below_alloc _ _)
theorem numbered_any (base b:Nat) (rt md m:Int) (es:Ents) (w:World) (hG:Ls base w b rt md es) (hes:es.length≤1000) :
  Calls Tryz.prog 150 #[.pointer (some ⟨b,0,none⟩),I m] w fun e w'=>e=.returned (.tuple #[lv (fst es (isN m)),.bool (any es (isN m))])∧Below w.heap.size w w':=by
 obtain ⟨V,hV,hs,hx,hz,hb⟩:=two0 w (.cells #[I m] 3) (.cells #[I 0,I 0,I 0,I 0] 182)
 have HF:=hide (first_any base b rt md es 226 w.heap.size (isN m) V (hG.below hb) hes (enters_of Tryz.func226 (by kernel_rfl) rfl)
  (fun p W hB=>num1_any p _ m W (by rw [World.cell?_of_block (hB.block w.heap.size (by omega)),cell_of hx];rfl)))
 generalize fst es (isN m)=x at *
 generalize any es (isN m)=y at *
 have HB:=hide hb
 clear hb hG
 go_enter Tryz.func150,Tryz.ntmps150
 go_wp2_with fail
 refine (unhide HF).mono ?_
 rintro e w1 ⟨rfl,hB⟩
 have hz1:=(hB.block _ (by omega)).trans hz
 obtain ⟨X1,X2,X3,W6,⟨x1,x2,x3,x4⟩,⟨c0,c1,c2,c3⟩,⟨f0,f1,f2,f3⟩,q1,hfr,hsx⟩:=store4 hz1 (I x.n) (I x.top) (I x.am) (I x.an)
 have hB1:=hide ((unhide HB).trans ((hB.mono (by omega)).trans (hfr.base (B:=w.heap.size) (by have:=hB.size;omega) (by simp))))
 obtain ⟨z0,z1,z2,z3⟩:=cells4 q1
 clear hB HF HB q1 hfr hsx hz hz1 hV hs hx
 unfold lv
 go_wp2_with fail
 refine bodyPost_ret (v:=.tuple #[.agg #[I x.n,I x.top,I x.am,I x.an],.bool y]) (by simp [results,Tryz.results150,go_sem,z0,z1,z2,z3]) rfl ?_
 exact ⟨rfl,unhide hB1⟩
theorem lyingAt_any (base b:Nat) (rt md m n:Int) (es:Ents) (w:World) (hG:Ls base w b rt md es) (hes:es.length≤1000) :
  Calls Tryz.prog 110 #[.pointer (some ⟨b,0,none⟩),pv m n] w fun e w'=>e=.returned (.tuple #[lv (fst es (isAt m n)),.bool (any es (isAt m n))])∧Below w.heap.size w w':=by
 obtain ⟨V,hV,hs,hx,hz,hb⟩:=two0 w (.cells #[I m,I n] 50) (.cells #[I 0,I 0,I 0,I 0] 182)
 have HF:=hide (first_any base b rt md es 164 w.heap.size (isAt m n) V (hG.below hb) hes (enters_of Tryz.func164 (by kernel_rfl) rfl)
  (fun p W hB=>lie1_any p _ m n W (by rw [World.cell?_of_block (hB.block w.heap.size (by omega)),cell_of hx];rfl) (by rw [World.cell?_of_block (hB.block w.heap.size (by omega)),cell_of hx];rfl)))
 generalize fst es (isAt m n)=x at *
 generalize any es (isAt m n)=y at *
 have HB:=hide hb
 clear hb hG
 unfold pv
 go_enter Tryz.func110,Tryz.ntmps110
 go_wp2_with fail
 refine (unhide HF).mono ?_
 rintro e w1 ⟨rfl,hB⟩
 have hz1:=(hB.block _ (by omega)).trans hz
 obtain ⟨X1,X2,X3,W6,⟨x1,x2,x3,x4⟩,⟨c0,c1,c2,c3⟩,⟨f0,f1,f2,f3⟩,q1,hfr,hsx⟩:=store4 hz1 (I x.n) (I x.top) (I x.am) (I x.an)
 have hB1:=hide ((unhide HB).trans ((hB.mono (by omega)).trans (hfr.base (B:=w.heap.size) (by have:=hB.size;omega) (by simp))))
 obtain ⟨z0,z1,z2,z3⟩:=cells4 q1
 clear hB HF HB q1 hfr hsx hz hz1 hV hs hx
 unfold lv
 go_wp2_with fail
 refine bodyPost_ret (v:=.tuple #[.agg #[I x.n,I x.top,I x.am,I x.an],.bool y]) (by simp [results,Tryz.results110,go_sem,z0,z1,z2,z3]) rfl ?_
 exact ⟨rfl,unhide hB1⟩
def rootTop (rt:Int) (es:Ents) (m:Int):Int:=if m=0 then rt else (fst es (isN m)).top
def rootIs (es:Ents) (m:Int):Bool:=if m=0 then true else any es (isN m)
theorem root_any (base b:Nat) (rt md m:Int) (es:Ents) (w:World) (hG:Ls base w b rt md es) (hes:es.length≤1000) :
  Calls Tryz.prog 105 #[.pointer (some ⟨b,0,none⟩),I m] w fun e w'=>e=.returned (.tuple #[I (rootTop rt es m),.bool (rootIs es m)])∧Below w.heap.size w w':=by
 obtain ⟨a,cap,h0,_,_,_,_⟩:=hG.cells
 have HF:=hide (numbered_any base b rt md m es w hG hes)
 clear hG
 by_cases hm:m=0
 ·rw [rootTop,rootIs,if_pos hm,if_pos hm]
  subst hm
  clear HF
  go_enter Tryz.func105,Tryz.ntmps105
  go_wp2_with fail
  go_ret2
  exact ⟨rfl,Below.refl _ _⟩
 ·rw [rootTop,rootIs,if_neg hm,if_neg hm]
  generalize fst es (isN m)=x at *
  generalize any es (isN m)=y at *
  go_enter Tryz.func105,Tryz.ntmps105
  go_wp2_with fail
  refine (unhide HF).mono ?_
  rintro e w1 ⟨rfl,hB⟩
  have hB1:=hide hB
  clear hB HF h0
  unfold lv
  go_wp2_with fail
  go_ret2
  exact ⟨rfl,(unhide hB1).alloc (unhide hB1).size _⟩
def upIs (es:Ents) (m n:Int):Bool:=any es (isN m) && decide ((fst es (isN m)).top=n)
def upM (es:Ents) (m n:Int):Int:=if upIs es m n then (fst es (isN m)).am else m
def upN (es:Ents) (m n:Int):Int:=if upIs es m n then (fst es (isN m)).an else n
theorem store2 {W:World} {b:Nat} {t:TypeId} {a0 a1:Value} (h:W.heap[b]?=some (.cells #[a0,a1] t)) (v0 v1:Value) :
  ∃ X1 X2:World,(W.setCell ⟨b,0,none⟩ v0=X1∧X1.setCell ⟨b,1,none⟩ v1=X2)∧(W.cell? ⟨b,0,none⟩=some a0∧X1.cell? ⟨b,1,none⟩=some a1) ∧
   (W.frozen? ⟨b,0,none⟩=false∧X1.frozen? ⟨b,1,none⟩=false)∧X2.heap[b]?=some (.cells #[v0,v1] t)∧Fr [b] W X2∧X2.heap.size=W.heap.size:=by
 have h1:=heap_set h 0 v0
 have h2:=heap_set h1 1 v1
 refine ⟨_,_,⟨rfl,rfl⟩,⟨?_,?_⟩,⟨frozen_of h _,frozen_of h1 _⟩,h2,?_,?_⟩
 ·rw [cell_of h];rfl
 ·rw [cell_of h1];rfl
 ·exact ((Fr.refl [b] W).set (a:=⟨b,0,none⟩) (by simp) v0).set (a:=⟨b,1,none⟩) (by simp) v1
 ·simp [World.setCell]
theorem cells2 {W:World} {b:Nat} {t:TypeId} {a0 a1:Value} (h:W.heap[b]?=some (.cells #[a0,a1] t)) :
  W.cell? ⟨b,0,none⟩=some a0∧W.cell? ⟨b,1,none⟩=some a1:=by
 refine ⟨?_,?_⟩ <;> rw [cell_of h] <;> rfl
theorem up_any (base b:Nat) (rt md m n:Int) (es:Ents) (w:World) (hG:Ls base w b rt md es) (hes:es.length≤1000) :
  Calls Tryz.prog 272 #[.pointer (some ⟨b,0,none⟩),pv m n] w fun e w'=>e=.returned (.tuple #[pv (upM es m n) (upN es m n),.bool (upIs es m n)])∧Below w.heap.size w w':=by
 obtain ⟨V,hV,hs,hx,hz,hb⟩:=two0 w (.cells #[I m,I n] 50) (.cells #[I 0,I 0] 50)
 have HF:=hide (numbered_any base b rt md m es V (hG.below hb) hes)
 rw [upM,upN,upIs]
 generalize fst es (isN m)=x at *
 generalize any es (isN m)=y at *
 clear hG
 have HB:=hide hb
 clear hb
 obtain ⟨v0,v1⟩:=cells2 hx
 unfold pv
 go_enter Tryz.func272,Tryz.ntmps272
 go_wp2_with fail
 refine (unhide HF).mono ?_
 rintro e w1 ⟨rfl,hB⟩
 have hz1:=(Below.heap_alloc w1 (.cells #[I x.n,I x.top,I x.am,I x.an] 182) _ (by have:=hB.size;omega)).trans ((hB.block _ (by omega)).trans hz)
 have hx1:=(Below.heap_alloc w1 (.cells #[I x.n,I x.top,I x.am,I x.an] 182) _ (by have:=hB.size;omega)).trans ((hB.block _ (by omega)).trans hx)
 have hm1:(w1.alloc (.cells #[I x.n,I x.top,I x.am,I x.an] 182)).heap[w1.heap.size]?=some (.cells #[I x.n,I x.top,I x.am,I x.an] 182):=putAll _ _ rfl
 have hB2:Below w.heap.size w (w1.alloc (.cells #[I x.n,I x.top,I x.am,I x.an] 182)):=((unhide HB).trans (hB.mono (by omega))).alloc (by have:=hB.size;omega) _
 obtain ⟨W2,hW2⟩:∃ W2,w1.alloc (.cells #[I x.n,I x.top,I x.am,I x.an] 182)=W2:=⟨_,rfl⟩
 rw [hW2] at hz1 hx1 hm1 hB2
 obtain ⟨p0,p1⟩:=cells2 hx1
 obtain ⟨l0,l1,l2,l3⟩:=cells4 hm1
 clear hV hs hx hz HB HF v0 v1
 have HB2:=hide hB2
 have Hz:=hide hz1
 clear hB hB2 hz1 hx1 hm1
 unfold lv
 by_cases hc:y=true∧x.top=n
 ·obtain ⟨rfl,rfl⟩:=hc
  obtain ⟨X1,X2,⟨x1,x2⟩,⟨c0,c1⟩,⟨f0,f1⟩,q1,hfr,hsx⟩:=store2 (unhide Hz) (I x.am) (I x.an)
  obtain ⟨z0,z1⟩:=cells2 q1
  have HE:=hide ((unhide HB2).trans (hfr.base (B:=w.heap.size) (by exact (unhide HB2).size) (by simp)))
  clear hfr hsx q1 HB2 Hz
  go_wp2_with fail
  refine bodyPost_ret (v:=.tuple #[.agg #[I x.am,I x.an],.bool true]) (by simp [results,Tryz.results272,go_sem,z0,z1]) rfl ?_
  refine ⟨?_,unhide HE⟩
  simp
 ·have hc':(y && decide (x.top=n))=false:=by
   cases y <;> simp_all
  obtain ⟨X1,X2,⟨x1,x2⟩,⟨c0,c1⟩,⟨f0,f1⟩,q1,hfr,hsx⟩:=store2 (unhide Hz) (I m) (I n)
  obtain ⟨z0,z1⟩:=cells2 q1
  have HE:=hide ((unhide HB2).trans (hfr.base (B:=w.heap.size) (by exact (unhide HB2).size) (by simp)))
  have HC:=hide hc'
  clear hfr hsx q1 HB2 Hz hc'
  cases y with
  | false =>
   clear hc
   go_wp2_with fail
   refine bodyPost_ret (v:=.tuple #[.agg #[I m,I n],.bool false]) (by simp [results,Tryz.results272,go_sem,z0,z1]) rfl ?_
   refine ⟨?_,unhide HE⟩
   rfl
  | true =>
   have hc2:¬ x.top=n:=fun h=>hc ⟨rfl,h⟩
   clear hc
   go_wp2_with fail
   all_goals
    refine bodyPost_ret (v:=.tuple #[.agg #[I m,I n],.bool false]) (by simp [results,Tryz.results272,go_sem,z0,z1]) rfl ?_
    exact ⟨rfl,unhide HE⟩
attribute [local go_sem ↓] Go.wp_at_zero Go.wp_at_succ
def Eld (md:Int) (es:Ents):Prop:=∀ p ∈ es,p.am < p.n∧p.n≤md
theorem fst_mem {es:Ents} {P:Ld→Bool} (h:any es P=true):fst es P ∈ es∧P (fst es P)=true:=by
 unfold any at h
 obtain ⟨p,hp⟩:=Option.isSome_iff_exists.1 h
 rw [fst,hp]
 exact ⟨List.mem_of_find?_eq_some hp,List.find?_some hp⟩
def dn (es:Ents):Nat→Int→Int→Int × Int
 | 0,m,n=>(m,n)
 | k + 1,m,n=>if any es (isAt m n) then dn es k (fst es (isAt m n)).n (fst es (isAt m n)).top else (m,n)
def fuel (md m:Int):Nat:=(md + 1 - m).toNat
def down (md:Int) (es:Ents) (m n:Int):Int × Int:=dn es (fuel md m) m n
theorem Eld.next {md:Int} {es:Ents} (h:Eld md es) {m n:Int} (ha:any es (isAt m n)=true):m < (fst es (isAt m n)).n∧(fst es (isAt m n)).n≤md:=by
 obtain ⟨h1,h2⟩:=fst_mem ha
 have h3:=h _ h1
 simp only [isAt,decide_eq_true_eq] at h2
 rw [h2.1] at h3
 exact h3
theorem dn_stop {es:Ents} (k:Nat) {m n:Int} (ha:any es (isAt m n)=false):dn es k m n=(m,n):=by
 cases k with
 | zero=>rfl
 | succ j=>rw [dn,ha];rfl
theorem dn_same {md:Int} {es:Ents} (h:Eld md es):∀ (k k':Nat) (m n:Int),fuel md m≤k→fuel md m≤k'→dn es k m n=dn es k' m n:=by
 intro k
 induction k with
 | zero =>
  intro k' m n hk _
  cases ha:any es (isAt m n) with
  | false=>rw [dn_stop _ ha,dn_stop _ ha]
  | true =>
   obtain ⟨h1,h2⟩:=h.next ha
   simp only [fuel] at hk
   omega
 | succ k ih =>
  intro k' m n hk hk'
  cases ha:any es (isAt m n) with
  | false=>rw [dn_stop _ ha,dn_stop _ ha]
  | true =>
   obtain ⟨h1,h2⟩:=h.next ha
   cases k' with
   | zero=>simp only [fuel] at hk';omega
   | succ j =>
    rw [dn,dn,ha]
    simp only [if_true]
    exact ih _ _ _ (by simp only [fuel] at *;omega) (by simp only [fuel] at *;omega)
theorem dn_fuel {md:Int} {es:Ents} (h:Eld md es) (k:Nat) (m n:Int) (hk:fuel md m≤k):dn es k m n=down md es m n:=dn_same h _ _ _ _ hk (Nat.le_refl _)
theorem down_step {md:Int} {es:Ents} (h:Eld md es) {m n:Int} (ha:any es (isAt m n)=true):down md es m n=down md es (fst es (isAt m n)).n (fst es (isAt m n)).top:=by
 obtain ⟨h1,h2⟩:=h.next ha
 have e:fuel md m=(fuel md m - 1) + 1:=by simp only [fuel] at *;omega
 rw [down,e,dn,ha]
 simp only [if_true]
 exact dn_fuel h _ _ _ (by simp only [fuel] at *;omega)
theorem down_stop {md:Int} {es:Ents} {m n:Int} (ha:any es (isAt m n)=false):down md es m n=(m,n):=by
 rw [down]
 cases fuel md m with
 | zero=>rfl
 | succ j=>rw [dn,ha];rfl
def cInt (W:World) (h:Nat):Int:=match W.cell? ⟨h,0,none⟩ with | some (.int _ x)=>x | _ =>0
theorem down_any (base b:Nat) (rt md m n:Int) (es:Ents) (w:World) (hG:Ls base w b rt md es) (hes:es.length≤1000) (hE:Eld md es) :
  Calls Tryz.prog 38 #[.pointer (some ⟨b,0,none⟩),pv m n] w fun e w'=>e=.returned (pv (down md es m n).1 (down md es m n).2)∧Below w.heap.size w w':=by
 have HE:=hide hE
 have hbl:=hG.lt
 have HL:=hide (fun m n W (hB:Below w.heap.size w W)=>lyingAt_any base b rt md m n es W (hG.below hB) hes)
 obtain ⟨r,hr⟩:∃ r,r=down md es m n:=⟨_,rfl⟩
 rw [← hr]
 have Hr:=hide hr
 obtain ⟨V,hV,hs,hx,hz,hb⟩:=two0 w (.cells #[I m,I n] 50) (.cells #[I 0,I 0] 50)
 have HB:=hide hb
 have HX:=hide hx
 have HZ:=hide hz
 clear hG hE hr hb hx hz
 unfold pv
 go_enter Tryz.func38,Tryz.ntmps38
 go_wp2_with fail
 generalize hh:w.heap.size=h at *
 go_loopw [6] (fun _ wr=>∃ m n:Int,r=down md es m n∧wr.heap[h]?=some (.cells #[I m,I n] 50)∧wr.heap[h + 1]?=some (.cells #[I 0,I 0] 50)∧Below h w wr) (fun _ wr=>(md + 1 - cInt wr h).toNat)
 case atStart=>exact ⟨m,n,unhide Hr,unhide HX,unhide HZ,unhide HB⟩
 case round =>
  clear hV hs HB HX HZ Hr
  obtain ⟨m,n,hr,hx,hz,hb⟩:=hrel
  have HF:=hide (unhide HL m n wr hb)
  obtain ⟨x0,x1⟩:=cells2 hx
  have HX:=hide hx
  have HZ:=hide hz
  have HB:=hide hb
  have Hr:=hide hr
  clear hx hz hb hr
  have hcm:cInt wr h=m:=by rw [cInt,x0]
  have Hc:=hide hcm
  clear hcm
  obtain ⟨x,hx⟩:∃ x,x=fst es (isAt m n):=⟨_,rfl⟩
  rw [← hx] at HF
  have HP:Hid (any es (isAt m n)=true→m < x.n∧x.n≤md∧r=down md es x.n x.top):=by
   intro ha
   obtain ⟨h1,h2⟩:=(unhide HE).next ha
   rw [hx]
   exact ⟨h1,h2,(unhide Hr).trans (down_step (unhide HE) ha)⟩
  clear hx
  cases ha:any es (isAt m n) with
  | false =>
   rw [ha] at HF
   have He:Hid (r=(m,n)):=hide ((unhide Hr).trans (down_stop ha))
   clear ha HP Hr HL HE
   go_wp2_with fail
   refine (unhide HF).mono ?_
   rintro e w1 ⟨rfl,hB⟩
   have hz1:=(Below.heap_alloc w1 (.cells #[I x.n,I x.top,I x.am,I x.an] 182) _ (by have:=hB.size;have:=lt_of_heap (unhide HZ);omega)).trans ((hB.block _ (lt_of_heap (unhide HZ))).trans (unhide HZ))
   have hx1:=(Below.heap_alloc w1 (.cells #[I x.n,I x.top,I x.am,I x.an] 182) _ (by have:=hB.size;have:=lt_of_heap (unhide HX);omega)).trans ((hB.block _ (lt_of_heap (unhide HX))).trans (unhide HX))
   have hB2:Below h w (w1.alloc (.cells #[I x.n,I x.top,I x.am,I x.an] 182)):=((unhide HB).trans (hB.mono (by have:=lt_of_heap (unhide HX);omega))).alloc (by have:=hB.size;have:=lt_of_heap (unhide HX);omega) _
   obtain ⟨W2,hW2⟩:∃ W2,w1.alloc (.cells #[I x.n,I x.top,I x.am,I x.an] 182)=W2:=⟨_,rfl⟩
   rw [hW2] at hz1 hx1 hB2
   obtain ⟨p0,p1⟩:=cells2 hx1
   obtain ⟨X1,X2,⟨x1',x2'⟩,⟨c0,c1⟩,⟨f0,f1⟩,q1,hfr,hsx⟩:=store2 hz1 (I m) (I n)
   obtain ⟨z0,z1⟩:=cells2 q1
   have HE:=hide (hB2.trans (hfr.base (B:=h) (by have:=lt_of_heap hx1;omega) (by simp)))
   clear hfr hsx q1 hB2 hz1 hx1 hB HF HB HX HZ x0 x1
   unfold lv
   go_wp2_with fail
   refine bodyPost_ret (v:=.agg #[I m,I n]) (by simp [results,Tryz.results38,go_sem,z0,z1]) rfl ?_
   rw [unhide He,hh]
   exact ⟨rfl,unhide HE⟩
  | true =>
   rw [ha] at HF
   obtain ⟨g1,g2,g3⟩:=unhide HP ha
   have Hg:=hide (⟨g1,g2,g3⟩:m < x.n∧x.n≤md∧r=down md es x.n x.top)
   clear ha HP Hr HL HE g1 g2 g3
   go_wp2_with fail
   refine (unhide HF).mono ?_
   rintro e w1 ⟨rfl,hB⟩
   have hz1:=(Below.heap_alloc w1 (.cells #[I x.n,I x.top,I x.am,I x.an] 182) _ (by have:=hB.size;have:=lt_of_heap (unhide HZ);omega)).trans ((hB.block _ (lt_of_heap (unhide HZ))).trans (unhide HZ))
   have hx1:=(Below.heap_alloc w1 (.cells #[I x.n,I x.top,I x.am,I x.an] 182) _ (by have:=hB.size;have:=lt_of_heap (unhide HX);omega)).trans ((hB.block _ (lt_of_heap (unhide HX))).trans (unhide HX))
   have hm1:(w1.alloc (.cells #[I x.n,I x.top,I x.am,I x.an] 182)).heap[w1.heap.size]?=some (.cells #[I x.n,I x.top,I x.am,I x.an] 182):=putAll _ _ rfl
   have hB2:Below h w (w1.alloc (.cells #[I x.n,I x.top,I x.am,I x.an] 182)):=((unhide HB).trans (hB.mono (by have:=lt_of_heap (unhide HX);omega))).alloc (by have:=hB.size;have:=lt_of_heap (unhide HX);omega) _
   obtain ⟨W2,hW2⟩:∃ W2,w1.alloc (.cells #[I x.n,I x.top,I x.am,I x.an] 182)=W2:=⟨_,rfl⟩
   rw [hW2] at hz1 hx1 hm1 hB2
   obtain ⟨p0,p1⟩:=cells2 hx1
   obtain ⟨l0,l1,l2,l3⟩:=cells4 hm1
   obtain ⟨X1,X2,⟨x1',x2'⟩,⟨c0,c1⟩,⟨f0,f1⟩,q1,hfr,hsx⟩:=store2 hx1 (I x.n) (I x.top)
   have HE:=hide (hB2.trans (hfr.base (B:=h) (by have:=lt_of_heap hx1;omega) (by simp)))
   have Hq:=hide q1
   have Hz:=hide ((hfr.blk (h + 1) (lt_of_heap hz1) (by simp)).trans hz1)
   clear hfr hsx q1 hB2 hz1 hx1 hm1 hB HF HB HX HZ x0 x1
   unfold lv
   go_wp2_with fail
   go_roundw
   case rel=>exact ⟨x.n,x.top,(unhide Hg).2.2,unhide Hq,unhide Hz,unhide HE⟩
   case measure =>
    have e1:cInt X2 h=x.n:=by rw [cInt,cell_of (unhide Hq)];rfl
    rw [e1,unhide Hc]
    have:=unhide Hg
    omega
end Go.Proofs.YtlngeaacjbdmhaaGreat.Mt
namespace Go.Proofs.YtlngeaacjbdmhaaGreat.Nm
def split:List UInt8→List (List UInt8)
 | []=>[[]]
 | c :: r=>if c=47 then [] :: split r else match split r with
  | []=>[[c]]
  | h :: t=>(c :: h) :: t
def parts (l:List UInt8):List (List UInt8):=(split l).filter fun p=>!p.isEmpty
def piece (l:List UInt8):List (List UInt8):=if l=[] then [] else [l]
def before (l:List UInt8):List UInt8:=l.takeWhile fun c=>c != 47
def behind (l:List UInt8):List UInt8:=(l.dropWhile fun c=>c != 47).drop 1
theorem split_ne (l:List UInt8):split l≠[]:=by
 cases l with
 | nil=>simp [split]
 | cons c r =>
  unfold split
  split
  ·simp
  ·split <;> simp
theorem split_app (a b:List UInt8):split (a ++ 47 :: b)=split a ++ split b:=by
 induction a with
 | nil=>simp [split]
 | cons c r ih =>
  simp only [List.cons_append,split]
  split
  ·rw [ih];simp
  ·rw [ih]
   cases h:split r with
   | nil=>exact absurd h (split_ne r)
   | cons x t=>simp
theorem parts_app (a b:List UInt8):parts (a ++ 47 :: b)=parts a ++ parts b:=by
 unfold parts;rw [split_app,List.filter_append]
theorem split_plain {l:List UInt8} (h:(47:UInt8) ∉ l):split l=[l]:=by
 induction l with
 | nil=>rfl
 | cons c r ih =>
  simp only [List.mem_cons,not_or] at h
  simp [split,ih h.2,Ne.symm h.1]
theorem parts_plain {l:List UInt8} (h:(47:UInt8) ∉ l):parts l=piece l:=by
 unfold parts piece
 rw [split_plain h]
 cases l <;> simp
theorem parts_nil:parts []=[]:=rfl
theorem not_before (l:List UInt8):(47:UInt8) ∉ before l:=by
 induction l with
 | nil=>simp [before]
 | cons c r ih =>
  by_cases hc:c=47
  ·subst hc;simp [before]
  ·have e1:before (c :: r)=c :: before r:=by simp [before,hc]
   rw [e1,List.mem_cons,not_or]
   exact ⟨Ne.symm hc,ih⟩
theorem split_at (l:List UInt8):((47:UInt8) ∉ l∧before l=l∧behind l=[]) ∨ l=before l ++ 47 :: behind l:=by
 induction l with
 | nil=>exact .inl ⟨by simp,rfl,rfl⟩
 | cons c r ih =>
  by_cases hc:c=47
  ·subst hc;exact .inr (by simp [before,behind])
  ·have e1:before (c :: r)=c :: before r:=by simp [before,hc]
   have e2:behind (c :: r)=behind r:=by simp [behind,hc]
   rw [e1,e2]
   rcases ih with ⟨h1,h2,h3⟩ | h
   ·exact .inl ⟨by simp only [List.mem_cons,not_or];exact ⟨Ne.symm hc,h1⟩,by rw [h2],h3⟩
   ·exact .inr (by rw [List.cons_append,← h])
theorem parts_cut (l:List UInt8):parts l=piece (before l) ++ parts (behind l):=by
 rcases split_at l with ⟨h1,h2,h3⟩ | h
 ·rw [h2,h3,parts_plain h1];simp [parts_nil]
 ·conv=>lhs;rw [h,parts_app,parts_plain (not_before l)]
theorem behind_lt {l:List UInt8} (h:l≠[]):(behind l).length < l.length:=by
 rcases split_at l with ⟨_,_,h3⟩ | h1
 ·rw [h3];cases l with
  | nil=>exact absurd rfl h
  | cons c r=>simp
 ·conv=>rhs;rw [h1]
  simp;omega
theorem behind_le (l:List UInt8):(behind l).length≤l.length:=by
 by_cases h:l=[]
 ·subst h;exact Nat.le_refl _
 ·exact Nat.le_of_lt (behind_lt h)
def joinS:List (List UInt8)→List UInt8
 | []=>[]
 | p :: r=>p ++ (match r with | []=>[] | _ :: _=>47 :: joinS r)
theorem joinS_one (p:List UInt8):joinS [p]=p:=by simp [joinS]
theorem joinS_cons (p q:List UInt8) (r:List (List UInt8)):joinS (p :: q :: r)=p ++ 47 :: joinS (q :: r):=by simp [joinS]
def pw (root slash:Bool) (ps:List (List UInt8)):List UInt8 :=
 (if root then [47] else []) ++ joinS ps ++ (if slash && !ps.isEmpty then [47] else [])
def err (l:List UInt8):Int :=
 if l=[] then 32 else if 4096 < l.length then 45 else if (0:UInt8) ∈ l then 39 else if (parts l).any (fun p=>decide (255 < p.length)) then 45 else 0
def rt (l:List UInt8):Bool:=decide (err l=0) && ([47]:List UInt8).isPrefixOf l
def sl (l:List UInt8):Bool:=decide (err l=0) && ([47]:List UInt8).isSuffixOf l
def ps (l:List UInt8):List (List UInt8):=if err l=0 then parts l else []
theorem err_ok {l:List UInt8} (h:err l=0):l≠[]∧l.length≤4096∧(0:UInt8) ∉ l∧∀ p ∈ parts l,p.length≤255:=by
 unfold err at h
 split at h
 ·omega
 ·split at h
  ·omega
  ·split at h
   ·omega
   ·split at h
    ·omega
    ·rename_i h1 h2 h3 h4
     refine ⟨h1,by omega,h3,fun p hp=>?_⟩
     simp only [List.any_eq_true,decide_eq_true_eq,not_exists,not_and] at h4
     have:=h4 p hp
     omega
theorem err_of {l:List UInt8} (h1:l≠[]) (h2:l.length≤4096) (h3:(0:UInt8) ∉ l) (h4:∀ p ∈ parts l,p.length≤255):err l=0:=by
 unfold err
 rw [if_neg h1,if_neg (by omega),if_neg h3,if_neg]
 simp only [List.any_eq_true,decide_eq_true_eq,not_exists,not_and]
 intro p hp
 have:=h4 p hp
 omega
theorem prefix_cons (c:UInt8) (r:List UInt8):([47]:List UInt8).isPrefixOf (c :: r)=(c == 47):=by
 by_cases h:c=47
 ·subst h;rfl
 ·have h2:((47:UInt8) == c)=false:=by simpa using Ne.symm h
  have h3:(c == 47)=false:=by simpa using h
  rw [h3];simp [List.isPrefixOf,h2]
theorem suffix_app (a:List UInt8) (c:UInt8):([47]:List UInt8).isSuffixOf (a ++ [c])=(c == 47):=by
 simp only [List.isSuffixOf,List.reverse_append,List.reverse_cons,List.reverse_nil,List.nil_append,List.singleton_append]
 exact prefix_cons c _
theorem suffix_cat (a:List UInt8) {b:List UInt8} (h:b≠[]):([47]:List UInt8).isSuffixOf (a ++ b)=([47]:List UInt8).isSuffixOf b:=by
 obtain ⟨c,x,rfl⟩:∃ c x,b=c ++ [x]:=⟨_,_,(List.dropLast_concat_getLast h).symm⟩
 rw [← List.append_assoc,suffix_app,suffix_app]
def wt:List (List UInt8)→Nat
 | []=>0
 | p :: r=>p.length + 1 + wt r
theorem wt_app (a b:List (List UInt8)):wt (a ++ b)=wt a + wt b:=by
 induction a with
 | nil=>simp [wt]
 | cons p r ih=>simp [wt,ih];omega
theorem wt_piece (l:List UInt8):wt (piece l)≤l.length + 1:=by unfold piece;split <;> simp [wt]
def ende (l:List UInt8):Nat:=if l=[] ∨ ([47]:List UInt8).isSuffixOf l=true then 0 else 1
theorem wt_parts (n:Nat):∀ l:List UInt8,l.length≤n→wt (parts l)≤l.length + ende l:=by
 induction n with
 | zero =>
  intro l h
  have:l=[]:=List.length_eq_zero_iff.1 (by omega)
  subst this
  simp [parts_nil,wt]
 | succ n ih =>
  intro l h
  by_cases h0:l=[]
  ·subst h0;simp [parts_nil,wt]
  rw [parts_cut,wt_app]
  rcases split_at l with ⟨h1,h2,h3⟩ | h1
  ·rw [h2,h3,parts_nil]
   have hw:=wt_piece l
   have he:ende l=1:=by
    unfold ende
    rw [if_neg]
    rintro (h4 | h4)
    ·exact h0 h4
    ·obtain ⟨a,x,rfl⟩:∃ a x,l=a ++ [x]:=⟨_,_,(List.dropLast_concat_getLast h0).symm⟩
     rw [suffix_app] at h4
     simp at h4 h1
     exact h1.2 h4.symm
   rw [he];simp [wt];omega
  ·have hl:=behind_lt h0
   have i1:=ih (behind l) (by omega)
   have hw:=wt_piece (before l)
   have e1:l.length=(before l).length + 1 + (behind l).length:=by
    conv=>lhs;rw [h1]
    simp;omega
   have e2:ende l=ende (behind l):=by
    unfold ende
    by_cases hb:behind l=[]
    ·have h5:([47]:List UInt8).isSuffixOf l=true:=by
      rw [hb] at h1
      have h6:=suffix_app (before l) 47
      rw [← h1] at h6
      exact h6
     rw [if_pos (.inr h5),if_pos (.inl hb)]
    ·have:([47]:List UInt8).isSuffixOf l=([47]:List UInt8).isSuffixOf (behind l):=by
      conv=>lhs;rw [h1]
      rw [suffix_cat _ (by simp)]
      have:=suffix_cat [47] hb
      simpa using this
     simp only [h0,hb,this,false_or]
   omega
theorem join_len (q:List (List UInt8)) (h:q≠[]):(joinS q).length + 1=wt q:=by
 induction q with
 | nil=>exact absurd rfl h
 | cons p r ih =>
  cases r with
  | nil=>rw [joinS_one];simp [wt]
  | cons x t=>rw [joinS_cons];have:=ih (by simp);simp [wt] at this ⊢;omega
theorem join_le (q:List (List UInt8)):(joinS q).length≤wt q:=by
 by_cases h:q=[]
 ·subst h;simp [joinS]
 ·have:=join_len q h;omega
theorem wr_le (a b:Bool) (q:List (List UInt8)):(pw a b q).length≤wt q + 2:=by
 have:=join_le q
 unfold pw
 cases a <;> simp <;> split <;> simp <;> omega
end Go.Proofs.YtlngeaacjbdmhaaGreat.Nm
namespace Go.Proofs.YtlngeaacjbdmhaaGreat.Kr
open Go.RowKit
theorem toNat_of (x:Int):((BitVec.ofInt 64 x).toNat:Int)=x % 18446744073709551616:=by
 rw [BitVec.toNat_ofInt]
 omega
theorem wrap_small {n:Nat} (h:n < 9223372036854775808):IntKind.i64.wrap (n:Int)=n:=by
 simp only [IntKind.wrap,IntKind.bits,IntKind.signed]
 simp
 omega
theorem wrap_zero {n:Nat} (h:n < 18446744073709551616):IntKind.i64.wrap (n:Int)=0 ↔ n=0:=by
 simp only [IntKind.wrap,IntKind.bits,IntKind.signed]
 simp
 split <;> omega
theorem and_mask (n k m:Nat) (h:m &&& (2 ^ k - 1)=m):n &&& m=(n % 2 ^ k) &&& m:=by
 rw [← Nat.and_two_pow_sub_one_eq_mod,Nat.and_assoc,Nat.and_comm (2 ^ k - 1) m,h]
def lo (x:Int):Nat:=(x % 8).toNat
theorem lo_lt (x:Int):lo x < 8:=by unfold lo;omega
theorem lo_mod (x:Int):(BitVec.ofInt 64 x).toNat % 8=lo x:=by
 have:=toNat_of x
 unfold lo
 omega
theorem and_of (x:Int) (m:Nat) (hm:m < 1024):bits .and .i64 x m=(((x % 1024).toNat &&& m:Nat):Int):=by
 have h0:m &&& (2 ^ 10 - 1)=m:=by rw [Nat.and_two_pow_sub_one_eq_mod];omega
 have h1:=toNat_of x
 have h2:(BitVec.ofInt 64 x).toNat % 2 ^ 10=(x % 1024).toNat:=by omega
 have h3:(BitVec.ofInt 64 (m:Int)).toNat=m:=by have:=toNat_of m;omega
 show IntKind.i64.wrap ((BitVec.ofInt 64 x &&& BitVec.ofInt 64 (m:Int)).toNat:Int)=_
 rw [BitVec.toNat_and,h3,and_mask _ 10 m h0,h2]
 apply wrap_small
 have:(x % 1024).toNat &&& m≤m:=Nat.and_le_right
 omega
theorem and7 (x:Int):bits .and .i64 x 7=lo x:=by
 rw [show (7:Int)=((7:Nat):Int) from rfl,and_of x 7 (by omega),and_mask _ 3 7 (by decide),show (7:Nat)=2 ^ 3 - 1 from rfl,Nat.and_two_pow_sub_one_eq_mod]
 unfold lo
 omega
def has (w m:Nat):Bool:=w &&& m == w
theorem bv_not (a b:BitVec 64):a &&& ~~~b=0#64 ↔ a &&& b=a:=by
 constructor
 ·intro h
  ext i hi
  have:=congrArg (fun v=>v.getLsbD i) h
  simp [BitVec.getLsbD_eq_getElem hi] at this
  simp
  exact this
 ·intro h
  ext i hi
  have:=congrArg (fun v=>v.getLsbD i) h
  simp [BitVec.getLsbD_eq_getElem hi] at this
  simp
  exact this
theorem andNot_zero (w:Nat) (hw:w < 8) (b:Int):(bits .andNot .i64 (w:Int) b == 0)=has w (lo b):=by
 have h1:=toNat_of (w:Int)
 have h3:(BitVec.ofInt 64 (w:Int)).toNat=w:=by omega
 have key:bits .andNot .i64 (w:Int) b=0 ↔ w &&& lo b=w:=by
  show IntKind.i64.wrap ((BitVec.ofInt 64 (w:Int) &&& ~~~BitVec.ofInt 64 b).toNat:Int)=0 ↔ _
  rw [wrap_zero (BitVec.isLt _)]
  have e1:((BitVec.ofInt 64 (w:Int) &&& ~~~BitVec.ofInt 64 b).toNat=0) ↔ (BitVec.ofInt 64 (w:Int) &&& ~~~BitVec.ofInt 64 b)=0#64:=by
   constructor
   ·intro h;exact BitVec.eq_of_toNat_eq (by simpa using h)
   ·intro h;rw [h];rfl
  rw [e1,bv_not]
  have e2:(BitVec.ofInt 64 (w:Int) &&& BitVec.ofInt 64 b).toNat=w &&& lo b:=by
   rw [BitVec.toNat_and,h3,Nat.and_comm,and_mask _ 3 w (by rw [Nat.and_two_pow_sub_one_eq_mod];omega),lo_mod,Nat.and_comm]
  constructor
  ·intro h
   rw [← e2,h,h3]
  ·intro h
   apply BitVec.eq_of_toNat_eq
   rw [e2,h,h3]
 rw [Bool.eq_iff_iff,beq_iff_eq,key]
 simp [has]
theorem fin_and:∀ a b:Fin 8,bits .and .i64 (a.val:Int) (b.val:Int)=((a.val &&& b.val:Nat):Int):=by decide +kernel
theorem and_lo (a b:Int):bits .and .i64 (lo a:Int) (lo b:Int)=((lo a &&& lo b:Nat):Int):=fin_and ⟨_,lo_lt a⟩ ⟨_,lo_lt b⟩
theorem has_and (w m:Int):(bits .and .i64 (lo m:Int) (lo w:Int) == (lo w:Int))=has (lo w) (lo m):=by
 rw [and_lo,Nat.and_comm]
 rw [Bool.eq_iff_iff,beq_iff_eq,has,beq_iff_eq]
 omega
theorem has_seven (w:Int):has (lo w) 7=true:=by
 have:∀ a:Fin 8,has a.val 7=true:=by decide +kernel
 exact this ⟨_,lo_lt w⟩
def cnt (cu cg m su sg:Int):Int:=if cu=0 then 7 else if cu=su then m / 64 else if cg=sg then m / 8 else m
def may (cu cg m su sg w:Int):Bool:=has (lo w) (lo (cnt cu cg m su sg))
end Go.Proofs.YtlngeaacjbdmhaaGreat.Kr
namespace Go.Proofs.YtlngeaacjbdmhaaGreat.Wl
open Go.RowKit
structure En where
 T:Tr
 rt:Int
 md:Int
 es:Mt.Ents
 cu:Int
 cg:Int
 rm:Int
 rn:Int
 follow:Bool
def En.down (E:En) (m n:Int):Int × Int:=Mt.down E.md E.es m n
def En.may (E:En) (n:Int):Bool:=match E.T.nd n with | some x=>Kr.may E.cu E.cg x.mode x.uid x.gid 1 | none=>false
def En.refusal (E:En) (n:Int):Int:=if E.T.kindOf n=1 then (if E.may n=true then 0 else 34) else 37
def upF (es:Mt.Ents):Nat→Int→Int→Int × Int
 | 0,m,n=>(m,n)
 | k + 1,m,n=>if Mt.upIs es m n=true then upF es k (Mt.upM es m n) (Mt.upN es m n) else (m,n)
def upK (es:Mt.Ents) (m:Int):Nat:=es.countP fun p=>decide (p.n≤m)
def up (es:Mt.Ents) (m n:Int):Int × Int:=upF es (upK es m) m n
theorem up_less {md:Int} {es:Mt.Ents} (h:Mt.Eld md es) {m n:Int} (hu:Mt.upIs es m n=true):Mt.upM es m n < m∧upK es (Mt.upM es m n) < upK es m:=by
 have h1:Mt.any es (Mt.isN m)=true:=by
  unfold Mt.upIs at hu
  simp at hu
  exact hu.1
 obtain ⟨h2,h3⟩:=Mt.fst_mem h1
 simp only [Mt.isN,decide_eq_true_eq] at h3
 have h4:=h _ h2
 have e:Mt.upM es m n=(Mt.fst es (Mt.isN m)).am:=by rw [Mt.upM,if_pos hu]
 rw [e]
 refine ⟨by omega,?_⟩
 unfold upK
 have h5:es.countP (fun p=>decide (p.n≤(Mt.fst es (Mt.isN m)).am))≤es.countP (fun p=>decide (p.n < m)):=List.countP_mono_left fun p _ hp=>by
  simp at hp ⊢
  omega
 have h6:es.countP (fun p=>decide (p.n < m)) < es.countP (fun p=>decide (p.n≤m)):=by
  clear h5 e h4 hu h1 h
  generalize Mt.fst es (Mt.isN m)=q at h2 h3
  induction es with
  | nil=>simp at h2
  | cons x l ih =>
   rw [List.countP_cons,List.countP_cons]
   have hm:l.countP (fun p=>decide (p.n < m))≤l.countP (fun p=>decide (p.n≤m)):=List.countP_mono_left fun p _ hp=>by
    simp at hp ⊢
    omega
   rcases List.mem_cons.1 h2 with rfl | h2
   ·rw [if_neg (by simp;omega),if_pos (by simp;omega)]
    omega
   ·have:=ih h2
    split <;> split <;> simp_all <;> omega
 omega
theorem up_stop {es:Mt.Ents} {m n:Int} (hu:Mt.upIs es m n=false) (k:Nat):upF es k m n=(m,n):=by
 cases k with
 | zero=>rfl
 | succ k=>rw [upF,hu];rfl
theorem up_same {md:Int} {es:Mt.Ents} (h:Mt.Eld md es):∀ (k k':Nat) (m n:Int),upK es m≤k→upK es m≤k'→upF es k m n=upF es k' m n:=by
 intro k
 induction k with
 | zero =>
  intro k' m n hk _
  cases hu:Mt.upIs es m n with
  | false=>rw [up_stop hu,up_stop hu]
  | true=>have:=(up_less h hu).2;omega
 | succ k ih =>
  intro k' m n hk hk'
  cases hu:Mt.upIs es m n with
  | false=>rw [up_stop hu,up_stop hu]
  | true =>
   have:=(up_less h hu).2
   cases k' with
   | zero=>omega
   | succ j =>
    rw [upF,upF,hu]
    simp only [if_true]
    exact ih _ _ _ (by omega) (by omega)
theorem up_step {md:Int} {es:Mt.Ents} (h:Mt.Eld md es) {m n:Int} (hu:Mt.upIs es m n=true):up es m n=up es (Mt.upM es m n) (Mt.upN es m n):=by
 have h1:=(up_less h hu).2
 obtain ⟨j,hj⟩:∃ j,upK es m=j + 1:=⟨upK es m - 1,by omega⟩
 rw [up,hj,upF,hu]
 simp only [if_true]
 exact up_same h _ _ _ _ (by omega) (Nat.le_refl _)
theorem up_end {es:Mt.Ents} {m n:Int} (hu:Mt.upIs es m n=false):up es m n=(m,n):=up_stop hu _
abbrev bs (l:List UInt8):ByteArray:=⟨l.toArray⟩
abbrev Bytes:=List UInt8
def isDots (p:Bytes):Bool:=p == [46] || p == [46,46]
def En.dots (E:En) (p:Bytes) (am an:Int):Int × Int :=
 if p=[46] ∨ (am=E.rm∧an=E.rn) then (am,an) else E.down (up E.es am an).1 (E.T.up (up E.es am an).2)
def En.find (E:En) (p:Bytes) (am an:Int):Option (Int × Int):=(E.T.findN an (bs p)).map fun n=>E.down am n
structure Pa where
 root:Bool
 slash:Bool
 parts:List Bytes
def onE (fol:Nat) (text:Bytes) (slash:Bool) (rest:List Bytes):Int :=
 if fol=40 then 46 else if text=[] then 32 else if 4096 < text.length + (Nm.pw false slash rest).length then 45 else Nm.err text
def onP (text:Bytes) (slash:Bool) (rest:List Bytes):Pa:=⟨Nm.rt text,slash || (Nm.sl text && rest.isEmpty),Nm.ps text ++ rest⟩
structure Fd where
 dm:Int
 dn:Int
 last:Bytes
 am:Int
 an:Int
 has:Bool
 slash:Bool
def Fd.v (f:Fd):Value:=.agg #[I f.dm,I f.dn,.string (bs f.last),I f.am,I f.an,.bool f.has,.bool f.slash]
def Fd.none:Fd:=⟨0,0,[],0,0,false,false⟩
structure Re where
 next:Option Pa
 f:Fd
 why:Int
 am:Int
 an:Int
 steps:Nat
def En.endF (E:En) (dm dn:Int) (last:Bytes) (am an:Int) (slash:Bool):Fd :=
 if slash=true∧E.T.kindOf an≠1 then Fd.none else if last=[] then ⟨am,an,last,am,an,true,slash⟩ else ⟨dm,dn,last,am,an,true,slash⟩
def En.endE (E:En) (an:Int) (slash:Bool):Int:=if slash=true∧E.T.kindOf an≠1 then 37 else 0
def missF (p:Bytes) (rest:List Bytes) (slash:Bool) (am an:Int):Fd:=if rest=[] then ⟨am,an,p,0,0,false,slash⟩ else Fd.none
def missE (rest:List Bytes):Int:=if rest=[] then 0 else 32
def En.goes (E:En) (n:Int) (rest:List Bytes) (slash:Bool):Bool:=decide (E.T.kindOf n=3) && (!rest.isEmpty || E.follow || slash)
def En.text (E:En) (n:Int):Bytes:=(E.T.textOf n).data.toList
def En.par (E:En) (fol:Nat) (slash:Bool):List Bytes→Int→Int→Bytes→Int→Int→Nat→Re
 | [],dm,dn,last,am,an,s=>⟨none,E.endF dm dn last am an slash,E.endE an slash,am,an,s⟩
 | p :: rest,dm,dn,_,am,an,s =>
  if E.refusal an=0 then
   if isDots p=true then E.par fol slash rest dm dn [] (E.dots p am an).1 (E.dots p am an).2 (s + 1)
   else match E.find p am an with
    | none=>⟨none,missF p rest slash am an,missE rest,am,an,s + 1⟩
    | some t=>if E.goes t.2 rest slash=true then
      (if onE fol (E.text t.2) slash rest=0 then ⟨some (onP (E.text t.2) slash rest),Fd.none,0,am,an,s + 1⟩ else ⟨none,Fd.none,onE fol (E.text t.2) slash rest,am,an,s + 1⟩)
     else E.par fol slash rest am an p t.1 t.2 (s + 1)
  else ⟨none,Fd.none,E.refusal an,am,an,s + 1⟩
def En.beg (E:En) (p:Pa) (am an:Int):Int × Int:=if p.root=true then (E.rm,E.rn) else (am,an)
def En.one (E:En) (fol:Nat) (p:Pa) (am an:Int) (s:Nat):Re:=E.par fol p.slash p.parts (E.beg p am an).1 (E.beg p am an).2 [] (E.beg p am an).1 (E.beg p am an).2 s
def En.run (E:En):Nat→Pa→Int→Int→Nat→Re
 | 0,p,am,an,s=>E.one 40 p am an s
 | k + 1,p,am,an,s=>match (E.one (40 - (k + 1)) p am an s).next with
  | none=>E.one (40 - (k + 1)) p am an s
  | some q=>E.run k q (E.one (40 - (k + 1)) p am an s).am (E.one (40 - (k + 1)) p am an s).an (E.one (40 - (k + 1)) p am an s).steps
theorem En.par_last (E:En) (slash:Bool):∀ (ps:List Bytes) (dm dn:Int) (last:Bytes) (am an:Int) (s:Nat),(E.par 40 slash ps dm dn last am an s).next=none:=by
 intro ps
 induction ps with
 | nil=>intros;rfl
 | cons p rest ih =>
  intro dm dn last am an s
  unfold En.par
  split
  ·split
   ·exact ih _ _ _ _ _ _
   ·split
    ·rfl
    ·split
     ·rw [if_neg (by simp [onE])]
     ·exact ih _ _ _ _ _ _
  ·rfl
def En.place (E:En) (m n:Int):Bool:=(E.T.nd n).isSome && Mt.rootIs E.es m
end Go.Proofs.YtlngeaacjbdmhaaGreat.Wl
namespace Go.Proofs.YtlngeaacjbdmhaaGreat.Nm
open Go.RowKit
theorem hide {p:Prop} (h:p):Hid p:=h
theorem unhide {p:Prop} (h:Hid p):p:=h
theorem putAll {w:World} (o:Obj) (h:Nat) (hh:h=w.heap.size):(w.alloc o).heap[h]?=some o:=by
 subst hh;exact heap_alloc_new w o
theorem lt_of_heap {W:World} {k:Nat} {o:Obj} (e:W.heap[k]?=some o):k < W.heap.size:=(Array.getElem?_eq_some_iff.1 e).1
theorem below_dn {B:Nat} {u w:World} (h:Below B u w) (m:Nat):Below B u (w.drewN m):=⟨h.os,h.tape,h.output,h.size,h.block⟩
theorem below_drew {B:Nat} {u w:World} (h:Below B u w):Below B u w.drew:=⟨h.os,h.tape,h.output,h.size,h.block⟩
theorem cell_of {W:World} {b:Nat} {cs:Array Value} {t:TypeId} {f:Nat × Nat} (h:W.heap[b]?=some (.cells cs t f)) (i:Nat):W.cell? ⟨b,i,none⟩=cs[i]?:=by
 simp [World.cell?,h]
theorem frozen_of {W:World} {b:Nat} {cs:Array Value} {t:TypeId} (h:W.heap[b]?=some (.cells cs t)) (i:Nat):W.frozen? ⟨b,i,none⟩=false:=by
 simp [World.frozen?,h]
theorem heap_set {W:World} {b:Nat} {cs:Array Value} {t:TypeId} {f:Nat × Nat} (h:W.heap[b]?=some (.cells cs t f)) (i:Nat) (v:Value) :
  (W.setCell ⟨b,i,none⟩ v).heap[b]?=some (.cells (cs.setIfInBounds i v) t f):=by
 obtain ⟨hl,he⟩:=Array.getElem?_eq_some_iff.1 h
 simp [World.setCell,Array.getElem?_modify,h]
theorem get_set {α:Type} {xs:List α} {i:Nat} {x:α} (hi:xs[i]?=some x) (y:α):(xs.set i y)[i]?=some y:=by
 have:=(List.getElem?_eq_some_iff.1 hi).1
 simp [this]
theorem own_ne {W:World} {base:Nat} {e:TypeId} {s n k:Nat} {v:Value} {xs:List Value} {o:Obj} (h:W.ownsRow base e s v n xs) (ho:W.heap[k]?=some o) (hne:∀ cur,o≠.cells cur e (0,0)):some k≠v.ownBlock:=by
 obtain ⟨-,⟨rfl,hz⟩ | ⟨g,cap,cur,rfl,hgb,hgg,hcap,hcm,hcs,htk⟩⟩:=h
 ·simp [Value.ownBlock]
 ·simp only [Value.ownBlock,ne_eq,Option.some.injEq]
  rintro rfl
  rw [hgg] at ho
  exact hne cur (Option.some.inj ho).symm
theorem own_keep {W W':World} {base:Nat} {e:TypeId} {s n:Nat} {v:Value} {xs:List Value} (h:W.ownsRow base e s v n xs) (hb:∀ (k:Nat) (cur:Array Value),W.heap[k]?=some (Obj.cells cur e (0,0))→W'.heap[k]?=W.heap[k]?):W'.ownsRow base e s v n xs:=by
 obtain ⟨h0,h1⟩:=h
 refine ⟨h0,?_⟩
 rcases h1 with h1 | ⟨g,cap,cur,h1,h2,h3,h4⟩
 ·exact .inl h1
 ·exact .inr ⟨g,cap,cur,h1,h2,(hb g cur h3).trans h3,h4⟩
theorem own_form {W:World} {base:Nat} {e:TypeId} {s n:Nat} {v:Value} {xs:List Value} (h:W.ownsRow base e s v n xs):∃ a cap,v=.slice a n cap:=by
 obtain ⟨-,⟨rfl,hz⟩ | ⟨g,cap,cur,rfl,_⟩⟩:=h
 ·exact ⟨none,0,by rw [hz]⟩
 ·exact ⟨_,_,rfl⟩
theorem own_open {W:World} {base:Nat} {e:TypeId} {s n:Nat} {v:Value} {xs:List Value} (h:W.ownsRow base e s v n xs) (hn:n≠0) :
  ∃ g cap cur,v=.slice (some ⟨g,0,none⟩) n cap∧base≤g∧W.heap[g]?=some (.cells cur e)∧n≤cap∧cap≤maxLen∧cur.size=cap * s∧∀ (j:Nat) (u:Value),xs[j]?=some u→W.cell? ⟨g,j,none⟩=some u:=by
 obtain ⟨hl,⟨rfl,hz⟩ | ⟨g,cap,cur,rfl,hgb,hgg,hcap,hcm,hcs,htk⟩⟩:=h
 ·exact absurd hz hn
 ·refine ⟨g,cap,cur,rfl,hgb,hgg,hcap,hcm,hcs,fun j u hj=>?_⟩
  have hj2:=(List.getElem?_eq_some_iff.1 hj).1
  rw [cell_of hgg,← hj,← htk,List.getElem?_take_of_lt (by omega)]
  simp
theorem own_base {W:World} {base base':Nat} {e:TypeId} {s n:Nat} {v:Value} {xs:List Value} (h:W.ownsRow base' e s v n xs) (hb:base≤base'):W.ownsRow base e s v n xs:=by
 obtain ⟨h0,h1 | ⟨g,cap,cur,h1,h2,h3⟩⟩:=h
 ·exact ⟨h0,.inl h1⟩
 ·exact ⟨h0,.inr ⟨g,cap,cur,h1,Nat.le_trans hb h2,h3⟩⟩
theorem own_addr {W:World} {base:Nat} {e:TypeId} {s n m cap:Nat} {a:Option Addr} {xs:List Value} (h:W.ownsRow base e s (.slice a m cap) n xs):∃ g,(a=none∧m=0∧cap=0) ∨ a=some ⟨g,0,none⟩:=by
 obtain ⟨-,⟨e1,hz⟩ | ⟨g,cap',cur,e1,_⟩⟩:=h
 ·simp only [Value.slice.injEq] at e1;obtain ⟨rfl,rfl,rfl⟩:=e1;exact ⟨0,.inl ⟨rfl,rfl,rfl⟩⟩
 ·simp only [Value.slice.injEq] at e1;obtain ⟨rfl,rfl,rfl⟩:=e1;exact ⟨g,.inr rfl⟩
theorem below_grown {base:Nat} {w W W':World} {e:TypeId} {s n:Nat} {v:Value} {xs:List Value} (hB:Below base w W) (h:W.ownsRow base e s v n xs) (g:W.grownBy W' v.ownBlock) (hb:base≤W.heap.size):Below base w W':=by
 refine ⟨g.os.trans hB.os,g.tape.trans hB.tape,g.output.trans hB.output,?_,?_⟩
 ·have:=g.size;have:=hB.size;omega
 ·intro k hk
  have h1:some k≠v.ownBlock:=by
   intro e
   obtain ⟨-,⟨rfl,_⟩ | ⟨g',cap,cur,rfl,hgb,_⟩⟩:=h
   ·simp [Value.ownBlock] at e
   ·simp [Value.ownBlock] at e;omega
  rw [g.block k (by omega) h1]
  exact hB.block k hk
theorem info9:(Tryz.prog.info? 9).map (fun i=>(i.zero,i.size,i.bytes))=some (some (.string ByteArray.empty),1,16):=by kernel_rfl
theorem info5:(Tryz.prog.info? 5).map (fun i=>(i.zero,i.size,i.bytes))=some (some (.int .u8 0),1,1):=by kernel_rfl
abbrev bs (l:List UInt8):ByteArray:=⟨l.toArray⟩
abbrev S (l:List UInt8):Value:=.string (bs l)
abbrev strs (l:List (List UInt8)):List Value:=l.map S
def RowO (W:World) (pa:Option Addr) (kl:List (List UInt8)):Prop:=∀ (k:Nat) (s:List UInt8),kl[k]?=some s→∃ b off,pa=some ⟨b,off,none⟩∧b < W.heap.size∧W.cell? ⟨b,off + k,none⟩=some (.string (bs s))
theorem RowO.below {W W':World} {pa:Option Addr} {kl:List (List UInt8)} (h:RowO W pa kl) (g:Below W.heap.size W W'):RowO W' pa kl:=fun k s hk=>by
 obtain ⟨b,off,h1,h2,h3⟩:=h k s hk
 exact ⟨b,off,h1,Nat.lt_of_lt_of_le h2 g.size,(World.cell?_of_block (g.block b h2)).trans h3⟩
theorem RowO.of_own {W:World} {base:Nat} {a:Option Addr} {m cap n:Nat} {ks:List (List UInt8)} (h:W.ownsRow base 9 1 (.slice a m cap) n (strs ks)):RowO W a ks:=fun k s hk=>by
 have hl:=h.1
 have hk1:=(List.getElem?_eq_some_iff.1 hk).1
 simp at hl
 obtain ⟨g,cap',cur,e1,_,hg,_,_,_,hx⟩:=own_open h (by omega)
 simp only [Value.slice.injEq] at e1
 refine ⟨g,0,e1.1,lt_of_heap hg,?_⟩
 rw [Nat.zero_add]
 exact hx _ _ (by simp [strs,hk])
end Go.Proofs.YtlngeaacjbdmhaaGreat.Nm
