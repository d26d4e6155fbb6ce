/-
 What WalkNumbers asks: its changes,its paths,and a walk without a tree.
-/
import Derived.Test.YtlngeaacjbdmhaaGreatPp38
set_option maxRecDepth 100000
set_option maxHeartbeats 1000000
namespace Go.Proofs.YtlngeaacjbdmhaaGreat.Bt
open Go.RowKit
attribute [local go_sem ↓] Go.wp_at_zero Go.wp_at_succ
def acts10:Array Value:=#[I 1,I 1,I 0,I 0,.string ⟨#[97]⟩,.string ⟨#[]⟩,I 0,I 1,I 493,I 0,I 0,I 0,I 0,I 0,I 0,I 1,I 2,I 0,I 0,.string ⟨#[102]⟩,.string ⟨#[]⟩,I 0,I 2,I 0,I 0,I 0,I 0,I 0,I 0,I 0,I 1,I 2,I 0,I 0,.string ⟨#[108]⟩,.string ⟨#[108]⟩,I 0,I 3,I 0,I 0,I 0,I 0,I 0,I 0,I 0,I 1,I 2,I 0,I 0,.string ⟨#[117,112]⟩,.string ⟨#[46,46,47,97,47]⟩,I 0,I 3,I 0,I 0,I 0,I 0,I 0,I 0,I 0,I 1,I 2,I 0,I 0,.string ⟨#[110,111]⟩,.string ⟨#[]⟩,I 0,I 3,I 0,I 0,I 0,I 0,I 0,I 0,I 0,I 1,I 2,I 0,I 0,.string ⟨#[100,97,114,107]⟩,.string ⟨#[]⟩,I 0,I 1,I 0,I 0,I 0,I 0,I 0,I 0,I 0,I 1,I 7,I 0,I 0,.string ⟨#[120]⟩,.string ⟨#[]⟩,I 0,I 1,I 0,I 0,I 0,I 0,I 0,I 0,I 0,I 1,I 2,I 0,I 0,.string ⟨#[111,117,116]⟩,.string ⟨#[109,105,115,115,105,110,103]⟩,I 0,I 3,I 0,I 0,I 0,I 0,I 0,I 0,I 0,I 1,I 1,I 0,I 0,.string ⟨#[109]⟩,.string ⟨#[]⟩,I 0,I 1,I 0,I 0,I 0,I 0,I 0,I 0,I 0,I 6,I 0,I 2,I 0,.string ⟨#[]⟩,.string ⟨#[]⟩,I 0,I 0,I 0,I 0,I 0,I 0,I 0,I 0,I 10]
def strs25:Array Value:=#[.string ⟨#[]⟩,.string ⟨#[47]⟩,.string ⟨#[97]⟩,.string ⟨#[97,47,102,47,120]⟩,.string ⟨#[97,47,102,47]⟩,.string ⟨#[97,47,108]⟩,.string ⟨#[97,47,108,47,120]⟩,.string ⟨#[97,47,117,112]⟩,.string ⟨#[97,47,117,112,47]⟩,.string ⟨#[97,47,117,112,47,102]⟩,.string ⟨#[97,47,110,111,47]⟩,.string ⟨#[97,47,100,97,114,107,47,46]⟩,.string ⟨#[97,47,100,97,114,107,47,120,47,121]⟩,.string ⟨#[97,47,111,117,116]⟩,.string ⟨#[97,47,111,117,116,47]⟩,.string ⟨#[122,122,47]⟩,.string ⟨#[109]⟩,.string ⟨#[109,47,102]⟩,.string ⟨#[109,47,46,46]⟩,.string ⟨#[109,47,117,112]⟩,.string ⟨#[109,47,100,97,114,107,47,46,46,47,46,46,47,97]⟩,.string ⟨#[47,46,46,47,46,46,47,97]⟩,.string ⟨#[97,47,46]⟩,.string ⟨#[97,47,46,46]⟩,.string ⟨#[97,47,47,102]⟩]
/-- The mounts that WalkNumbers binds. -/
def Nq (M:Mt.T):Prop:=M.rt=1∧(M.es=[] ∨ M.es=[⟨1,2,0,10⟩])
theorem ok_of {x:Ac} (h1:0≤x.dir∧x.dir≤100) (h2:0≤x.tq∧x.tq≤100) (h3:0≤x.an∧x.an≤100) (h4:x.s.size≤100000) (h5:x.ad.size≤100000):x.Ok:=⟨wf_of (by omega),wf_of (by omega),wf_of (by omega),h4,h5⟩
theorem act_get {W:World} {g:Nat} (h:W.heap[g]?=some (.cells acts10 52)) (k:Nat) (hk:k < 10):∃ x:Ac,x.Ok∧(k < 9→x.kind=1)∧(k=9→x.kind=6∧x.tq=2∧x.am=0∧x.an=10)∧W.cell? ⟨g,k * 15,none⟩=some (I x.kind)∧W.cell? ⟨g,k * 15 + 1,none⟩=some (I x.dir)∧W.cell? ⟨g,k * 15 + 2,none⟩=some (I x.tq)∧W.cell? ⟨g,k * 15 + 3,none⟩=some (I x.n)∧W.cell? ⟨g,k * 15 + 4,none⟩=some (.string x.s)∧W.cell? ⟨g,k * 15 + 5,none⟩=some (.string x.ad)∧W.cell? ⟨g,k * 15 + 6,none⟩=some (I x.sn)∧W.cell? ⟨g,k * 15 + 7,none⟩=some (I x.kd)∧W.cell? ⟨g,k * 15 + 8,none⟩=some (I x.mo)∧W.cell? ⟨g,k * 15 + 9,none⟩=some (I x.ui)∧W.cell? ⟨g,k * 15 + 10,none⟩=some (I x.gi)∧W.cell? ⟨g,k * 15 + 11,none⟩=some (I x.li)∧W.cell? ⟨g,k * 15 + 12,none⟩=some (I x.si)∧W.cell? ⟨g,k * 15 + 13,none⟩=some (I x.am)∧W.cell? ⟨g,k * 15 + 14,none⟩=some (I x.an):=by
 have e:∀ i:Nat,W.cell? ⟨g,i,none⟩=acts10[i]?:=fun i=>cell_of h i
 match k,hk with
 | 0,_=>exact ⟨⟨1,1,0,0,⟨#[97]⟩,⟨#[]⟩,0,1,493,0,0,0,0,0,0⟩,ok_of ⟨by decide,by decide⟩ ⟨by decide,by decide⟩ ⟨by decide,by decide⟩ (by decide) (by decide),fun h=>by first | rfl | omega,fun h=>by first | exact ⟨rfl,rfl,rfl,rfl⟩ | omega,(e _).trans rfl,(e _).trans rfl,(e _).trans rfl,(e _).trans rfl,(e _).trans rfl,(e _).trans rfl,(e _).trans rfl,(e _).trans rfl,(e _).trans rfl,(e _).trans rfl,(e _).trans rfl,(e _).trans rfl,(e _).trans rfl,(e _).trans rfl,(e _).trans rfl⟩
 | 1,_=>exact ⟨⟨1,2,0,0,⟨#[102]⟩,⟨#[]⟩,0,2,0,0,0,0,0,0,0⟩,ok_of ⟨by decide,by decide⟩ ⟨by decide,by decide⟩ ⟨by decide,by decide⟩ (by decide) (by decide),fun h=>by first | rfl | omega,fun h=>by first | exact ⟨rfl,rfl,rfl,rfl⟩ | omega,(e _).trans rfl,(e _).trans rfl,(e _).trans rfl,(e _).trans rfl,(e _).trans rfl,(e _).trans rfl,(e _).trans rfl,(e _).trans rfl,(e _).trans rfl,(e _).trans rfl,(e _).trans rfl,(e _).trans rfl,(e _).trans rfl,(e _).trans rfl,(e _).trans rfl⟩
 | 2,_=>exact ⟨⟨1,2,0,0,⟨#[108]⟩,⟨#[108]⟩,0,3,0,0,0,0,0,0,0⟩,ok_of ⟨by decide,by decide⟩ ⟨by decide,by decide⟩ ⟨by decide,by decide⟩ (by decide) (by decide),fun h=>by first | rfl | omega,fun h=>by first | exact ⟨rfl,rfl,rfl,rfl⟩ | omega,(e _).trans rfl,(e _).trans rfl,(e _).trans rfl,(e _).trans rfl,(e _).trans rfl,(e _).trans rfl,(e _).trans rfl,(e _).trans rfl,(e _).trans rfl,(e _).trans rfl,(e _).trans rfl,(e _).trans rfl,(e _).trans rfl,(e _).trans rfl,(e _).trans rfl⟩
 | 3,_=>exact ⟨⟨1,2,0,0,⟨#[117,112]⟩,⟨#[46,46,47,97,47]⟩,0,3,0,0,0,0,0,0,0⟩,ok_of ⟨by decide,by decide⟩ ⟨by decide,by decide⟩ ⟨by decide,by decide⟩ (by decide) (by decide),fun h=>by first | rfl | omega,fun h=>by first | exact ⟨rfl,rfl,rfl,rfl⟩ | omega,(e _).trans rfl,(e _).trans rfl,(e _).trans rfl,(e _).trans rfl,(e _).trans rfl,(e _).trans rfl,(e _).trans rfl,(e _).trans rfl,(e _).trans rfl,(e _).trans rfl,(e _).trans rfl,(e _).trans rfl,(e _).trans rfl,(e _).trans rfl,(e _).trans rfl⟩
 | 4,_=>exact ⟨⟨1,2,0,0,⟨#[110,111]⟩,⟨#[]⟩,0,3,0,0,0,0,0,0,0⟩,ok_of ⟨by decide,by decide⟩ ⟨by decide,by decide⟩ ⟨by decide,by decide⟩ (by decide) (by decide),fun h=>by first | rfl | omega,fun h=>by first | exact ⟨rfl,rfl,rfl,rfl⟩ | omega,(e _).trans rfl,(e _).trans rfl,(e _).trans rfl,(e _).trans rfl,(e _).trans rfl,(e _).trans rfl,(e _).trans rfl,(e _).trans rfl,(e _).trans rfl,(e _).trans rfl,(e _).trans rfl,(e _).trans rfl,(e _).trans rfl,(e _).trans rfl,(e _).trans rfl⟩
 | 5,_=>exact ⟨⟨1,2,0,0,⟨#[100,97,114,107]⟩,⟨#[]⟩,0,1,0,0,0,0,0,0,0⟩,ok_of ⟨by decide,by decide⟩ ⟨by decide,by decide⟩ ⟨by decide,by decide⟩ (by decide) (by decide),fun h=>by first | rfl | omega,fun h=>by first | exact ⟨rfl,rfl,rfl,rfl⟩ | omega,(e _).trans rfl,(e _).trans rfl,(e _).trans rfl,(e _).trans rfl,(e _).trans rfl,(e _).trans rfl,(e _).trans rfl,(e _).trans rfl,(e _).trans rfl,(e _).trans rfl,(e _).trans rfl,(e _).trans rfl,(e _).trans rfl,(e _).trans rfl,(e _).trans rfl⟩
 | 6,_=>exact ⟨⟨1,7,0,0,⟨#[120]⟩,⟨#[]⟩,0,1,0,0,0,0,0,0,0⟩,ok_of ⟨by decide,by decide⟩ ⟨by decide,by decide⟩ ⟨by decide,by decide⟩ (by decide) (by decide),fun h=>by first | rfl | omega,fun h=>by first | exact ⟨rfl,rfl,rfl,rfl⟩ | omega,(e _).trans rfl,(e _).trans rfl,(e _).trans rfl,(e _).trans rfl,(e _).trans rfl,(e _).trans rfl,(e _).trans rfl,(e _).trans rfl,(e _).trans rfl,(e _).trans rfl,(e _).trans rfl,(e _).trans rfl,(e _).trans rfl,(e _).trans rfl,(e _).trans rfl⟩
 | 7,_=>exact ⟨⟨1,2,0,0,⟨#[111,117,116]⟩,⟨#[109,105,115,115,105,110,103]⟩,0,3,0,0,0,0,0,0,0⟩,ok_of ⟨by decide,by decide⟩ ⟨by decide,by decide⟩ ⟨by decide,by decide⟩ (by decide) (by decide),fun h=>by first | rfl | omega,fun h=>by first | exact ⟨rfl,rfl,rfl,rfl⟩ | omega,(e _).trans rfl,(e _).trans rfl,(e _).trans rfl,(e _).trans rfl,(e _).trans rfl,(e _).trans rfl,(e _).trans rfl,(e _).trans rfl,(e _).trans rfl,(e _).trans rfl,(e _).trans rfl,(e _).trans rfl,(e _).trans rfl,(e _).trans rfl,(e _).trans rfl⟩
 | 8,_=>exact ⟨⟨1,1,0,0,⟨#[109]⟩,⟨#[]⟩,0,1,0,0,0,0,0,0,0⟩,ok_of ⟨by decide,by decide⟩ ⟨by decide,by decide⟩ ⟨by decide,by decide⟩ (by decide) (by decide),fun h=>by first | rfl | omega,fun h=>by first | exact ⟨rfl,rfl,rfl,rfl⟩ | omega,(e _).trans rfl,(e _).trans rfl,(e _).trans rfl,(e _).trans rfl,(e _).trans rfl,(e _).trans rfl,(e _).trans rfl,(e _).trans rfl,(e _).trans rfl,(e _).trans rfl,(e _).trans rfl,(e _).trans rfl,(e _).trans rfl,(e _).trans rfl,(e _).trans rfl⟩
 | 9,_=>exact ⟨⟨6,0,2,0,⟨#[]⟩,⟨#[]⟩,0,0,0,0,0,0,0,0,10⟩,ok_of ⟨by decide,by decide⟩ ⟨by decide,by decide⟩ ⟨by decide,by decide⟩ (by decide) (by decide),fun h=>by first | rfl | omega,fun h=>by first | exact ⟨rfl,rfl,rfl,rfl⟩ | omega,(e _).trans rfl,(e _).trans rfl,(e _).trans rfl,(e _).trans rfl,(e _).trans rfl,(e _).trans rfl,(e _).trans rfl,(e _).trans rfl,(e _).trans rfl,(e _).trans rfl,(e _).trans rfl,(e _).trans rfl,(e _).trans rfl,(e _).trans rfl,(e _).trans rfl⟩
def strL:List ByteArray:=[⟨#[]⟩,⟨#[47]⟩,⟨#[97]⟩,⟨#[97,47,102,47,120]⟩,⟨#[97,47,102,47]⟩,⟨#[97,47,108]⟩,⟨#[97,47,108,47,120]⟩,⟨#[97,47,117,112]⟩,⟨#[97,47,117,112,47]⟩,⟨#[97,47,117,112,47,102]⟩,⟨#[97,47,110,111,47]⟩,⟨#[97,47,100,97,114,107,47,46]⟩,⟨#[97,47,100,97,114,107,47,120,47,121]⟩,⟨#[97,47,111,117,116]⟩,⟨#[97,47,111,117,116,47]⟩,⟨#[122,122,47]⟩,⟨#[109]⟩,⟨#[109,47,102]⟩,⟨#[109,47,46,46]⟩,⟨#[109,47,117,112]⟩,⟨#[109,47,100,97,114,107,47,46,46,47,46,46,47,97]⟩,⟨#[47,46,46,47,46,46,47,97]⟩,⟨#[97,47,46]⟩,⟨#[97,47,46,46]⟩,⟨#[97,47,47,102]⟩]
theorem strs25_eq:strs25=(strL.map Value.string).toArray:=rfl
theorem strL_len:strL.length=25:=rfl
theorem str_get {W:World} {g:Nat} (h:W.heap[g]?=some (.cells strs25 9)) (k:Nat) (hk:k < 25):∃ s:ByteArray,W.cell? ⟨g,k,none⟩=some (.string s):=by
 have hk2:k < strL.length:=by rw [strL_len];exact hk
 refine ⟨strL[k],?_⟩
 rw [cell_of h,strs25_eq]
 simp [hk2]
section
variable {t m r R l0 l1 B:Nat} {K:Int} {w W:World} {T T':Tr} {M M':Mt.T} {rs:List Mt.Rm}
theorem nq_step {k:Nat} {x:Ac} (h1:k < 9→x.kind=1) (h2:k=9→x.kind=6∧x.tq=2∧x.am=0∧x.an=10) (hk:k < 10) (hM:k≤9→M=⟨1,0,[]⟩) (hs:Stp x T T' M M'):(k + 1≤9→M'=⟨1,0,[]⟩)∧Nq M':=by
 have hM0:=hM (by omega)
 have key:∀ {c:Int},x.kind=c→c≠6→c≠7→M'=M:=by
  intro c hc h6 h7
  rcases hs with ⟨-,-,e⟩ | ⟨-,-,e⟩ | ⟨-,-,e⟩ | ⟨-,-,e⟩ | ⟨-,-,e⟩ | ⟨e1,-,-⟩ | ⟨e1,-,-⟩ | ⟨-,e⟩ <;> first | exact e | (exact absurd (hc.symm.trans e1) (by assumption))
 rcases Nat.lt_or_ge k 9 with h | h
 ·have e:=key (h1 h) (by decide) (by decide)
  rw [e,hM0]
  exact ⟨fun _=>rfl,rfl,.inl rfl⟩
 ·obtain rfl:k=9:=by omega
  obtain ⟨k6,k2,k3,k4⟩:=h2 rfl
  refine ⟨fun h=>absurd h (by omega),?_⟩
  rcases hs with ⟨e1,-⟩ | ⟨e1,-⟩ | ⟨e1,-⟩ | ⟨e1,-⟩ | ⟨e1,-⟩ | ⟨-,-,e⟩ | ⟨e1,-⟩ | ⟨-,e⟩
  ·exact absurd (k6.symm.trans e1) (by decide)
  ·exact absurd (k6.symm.trans e1) (by decide)
  ·exact absurd (k6.symm.trans e1) (by decide)
  ·exact absurd (k6.symm.trans e1) (by decide)
  ·exact absurd (k6.symm.trans e1) (by decide)
  ·rw [e,hM0]
   unfold bindM
   rw [k2,k3,k4]
   split
   ·unfold Mt.T.bind
    split
    ·exact ⟨rfl,.inr rfl⟩
    ·exact ⟨rfl,.inl rfl⟩
   ·exact ⟨rfl,.inl rfl⟩
  ·exact absurd (k6.symm.trans e1) (by decide)
  ·rw [e,hM0];exact ⟨rfl,.inl rfl⟩
theorem Nq.wfs (h:Nq M):∀ p ∈ M.es,(kl p.top).wf=true∧(kl p.an).wf=true:=by
 intro p hp
 rcases h.2 with e | e
 ·rw [e] at hp;cases hp
 ·rw [e] at hp
  simp at hp
  subst hp
  exact ⟨by decide,by decide⟩
theorem Nq.no5 (h:Nq M) (cu cg:Int) (fo:Bool) (n:Int):(Eb T M cu cg fo).place 5 n=false:=by
 have:Mt.rootIs M.es 5=false:=by
  rcases h.2 with e | e <;> (rw [e];rfl)
 simp [Wl.En.place,Eb,this]
theorem Nq.top (hw:Wf B T) (cu cg:Int) (fo:Bool):(Eb T M cu cg fo).place 0 1=true:=by
 obtain ⟨x,hx,-⟩:=hw.root
 simp [Wl.En.place,Eb,hx,Mt.rootIs]
theorem Bx.wd2 (s:Bx t m r R l0 l1 B K w W T T M M rs) (hB:B≤860) (hi:∀ p ∈ M.es,(kl p.top).wf=true∧(kl p.an).wf=true) (cu cg:Int) (fo:Bool):Wl.Wd l0 20 m W t m (Eb T M cu cg fo) :=
 ⟨s.q.p,s.q.f.k.mono (by omega),s.a.ls,s.a.wf.eld,by have:=s.a.wf.le;simp only [Eb];omega,hi⟩
end
theorem place_nil (m:Nat) (a b:Int) (W:World) :
  Calls Tryz.prog 32 #[.pointer none,P0 m,.agg #[I a,I b]] W fun e w'=>e=.returned (.bool false)∧Below W.heap.size W w':=by
 have hB:Below W.heap.size W (W.alloc (.cells #[I a,I b] 50)):=(Below.refl _ W).alloc (Nat.le_refl _) _
 have HB:=hide hB
 clear hB
 go_enter Tryz.func32,Tryz.ntmps32
 go_wp2_with fail
 go_ret
 exact ⟨rfl,unhide HB⟩
theorem walk_nil (m:Nat) (a b c d e f:Int) (p:ByteArray) (fo:Bool) (W:World) :
  Calls Tryz.prog 101 #[.pointer none,P0 m,.agg #[I a,I b],.agg #[I c,I d],.agg #[I e,I f],.string p,.bool fo] W fun e w'=>e=.returned (.tuple #[.agg #[I 0,I 0,.string (Wl.bs []),I 0,I 0,.bool false,.bool false],I 0,I 1])∧Below W.heap.size W w':=by
 obtain ⟨V,hV,g1,g2,g3,g4,hB,hs⟩:=Wl.four_new W (.cells #[I a,I b] 50) (.cells #[I c,I d] 50) (.cells #[I e,I f] 57) Wl.zfd
 unfold Wl.zfd at hV g4
 obtain ⟨a0,a1⟩:=Mt.cells2 g1
 have H1:=hide (place_nil m a b V)
 have HG:=hide (⟨g4,hB,hs⟩:_∧_∧_)
 clear g1 g2 g3 g4 hB hs
 go_enter Tryz.func101,Tryz.ntmps101
 go_wp2_with fail
 refine (unhide H1).mono ?_
 rintro e w3 ⟨rfl,hB3⟩
 obtain ⟨g4,hB,hs⟩:=unhide HG
 have g5:=(hB3.block _ (by omega)).trans g4
 obtain ⟨r0,r1,r2,r3,r4,r5,r6,rf⟩:=cells7 g5
 obtain ⟨Y,hY,hYb,hYB⟩:=Wl.set7 g5 (I 0) (I 0) (.string ⟨#[]⟩) (I 0) (I 0) (.bool false) (.bool false)
 obtain ⟨z0,z1,z2,z3,z4,z5,z6,-⟩:=cells7 hYb
 have HY:=hide hY
 have HYB:=hide (Wl.fin4 hs hB hB3 hYB)
 clear g4 hB hs g5 hY hYb hYB hB3 H1 HG a0 a1
 go_wp2_with fail
 rw [unhide HY]
 refine bodyPost_ret (v:=.tuple #[.agg #[I 0,I 0,.string (Wl.bs []),I 0,I 0,.bool false,.bool false],I 0,I 1]) (by simp [results,Tryz.results101,go_sem,z0,z1,z2,z3,z4,z5,z6]) rfl ?_
 exact ⟨rfl,unhide HYB⟩
theorem Walk_of (tp:Value) (m:Nat) (a b c d x y:Int) (p:ByteArray) (fo:Bool) (F:Wl.Fd) (st wy:Int) (W:World) (H:∀ V,Below W.heap.size W V→Calls Tryz.prog 101 #[tp,P0 m,.agg #[I a,I b],.agg #[I c,I d],.agg #[I x,I y],.string p,.bool fo] V fun e w'=>e=.returned (.tuple #[F.v,I st,I wy])∧Below V.heap.size V w') :
  Calls Tryz.prog 27 #[tp,P0 m,.agg #[I a,I b],.agg #[I c,I d],.agg #[I x,I y],.string p,.bool fo] W fun e w'=>e=.returned (.tuple #[F.v,I wy])∧Below W.heap.size W w':=by
 obtain ⟨V,hV,g1,g2,g3,g4,hB,hs⟩:=Wl.four_new W (.cells #[I a,I b] 50) (.cells #[I c,I d] 50) (.cells #[I x,I y] 57) Wl.zfd
 unfold Wl.zfd at hV g4
 obtain ⟨a0,a1⟩:=Mt.cells2 g1
 obtain ⟨b0,b1⟩:=Mt.cells2 g2
 obtain ⟨d0,d1⟩:=Mt.cells2 g3
 have HW:=hide (H V hB)
 unfold Wl.Fd.v at HW ⊢
 have HG:=hide (⟨g4,hB,hs⟩:_∧_∧_)
 clear g1 g2 g3 g4 hB hs H
 go_enter Tryz.func27,Tryz.ntmps27
 go_wp2_with fail
 refine (unhide HW).mono ?_
 rintro e w3 ⟨rfl,hB3⟩
 obtain ⟨g4,hB,hs⟩:=unhide HG
 obtain ⟨Q,hQ,gQ,hBQ⟩:∃ Q,w3.alloc (.cells #[I F.dm,I F.dn,.string (Wl.bs F.last),I F.am,I F.an,.bool F.has,.bool F.slash] 59)=Q∧Q.heap[w3.heap.size]?=some (.cells #[I F.dm,I F.dn,.string (Wl.bs F.last),I F.am,I F.an,.bool F.has,.bool F.slash] 59)∧Below w3.heap.size w3 Q:=⟨_,rfl,heap_alloc_new _ _,(Below.refl _ _).alloc (Nat.le_refl _) _⟩
 have hB5:=hB3.trans (hBQ.mono hB3.size)
 have g5:=(hB5.block _ (by omega)).trans g4
 obtain ⟨e0,e1,e2,e3,e4,e5,e6,-⟩:=cells7 gQ
 obtain ⟨r0,r1,r2,r3,r4,r5,r6,rf⟩:=cells7 g5
 obtain ⟨Y,hY,hYb,hYB⟩:=Wl.set7 g5 (I F.dm) (I F.dn) (.string (Wl.bs F.last)) (I F.am) (I F.an) (.bool F.has) (.bool F.slash)
 obtain ⟨z0,z1,z2,z3,z4,z5,z6,-⟩:=cells7 hYb
 have HY:=hide hY
 have HYB:=hide (Wl.fin4 hs hB hB5 hYB)
 clear g4 hB hs g5 gQ hBQ hB5 hY hYb hYB hB3 HW HG a0 a1 b0 b1 d0 d1
 go_wp2_with fail
 rw [unhide HY]
 refine bodyPost_ret (v:=.tuple #[.agg #[I F.dm,I F.dn,.string (Wl.bs F.last),I F.am,I F.an,.bool F.has,.bool F.slash],I wy]) (by simp [results,Tryz.results27,go_sem,z0,z1,z2,z3,z4,z5,z6]) rfl ?_
 exact ⟨rfl,unhide HYB⟩
theorem Walk_nil (m:Nat) (a b c d e f:Int) (p:ByteArray) (fo:Bool) (W:World) :
  Calls Tryz.prog 27 #[.pointer none,P0 m,.agg #[I a,I b],.agg #[I c,I d],.agg #[I e,I f],.string p,.bool fo] W fun e w'=>e=.returned (.tuple #[.agg #[I 0,I 0,.string (Wl.bs []),I 0,I 0,.bool false,.bool false],I 1])∧Below W.heap.size W w' :=
 Walk_of (.pointer none) m a b c d e f p fo Wl.Fd.none 0 1 W fun V _=>walk_nil m a b c d e f p fo V
end Go.Proofs.YtlngeaacjbdmhaaGreat.Bt
