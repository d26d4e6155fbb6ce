/-
 A change of both trees and tables: what Do does,and that both answer alike.
-/
import Derived.Test.YtlngeaacjbdmhaaGreatPp32
import Derived.Deep.CutRange
import Derived.Test.YtlngeaacjbdmhaaGreatPp01
set_option maxRecDepth 100000
set_option maxHeartbeats 4000000
namespace Go.Proofs.YtlngeaacjbdmhaaGreat.Bt
open Go.RowKit
attribute [local go_sem ↓] Go.wp_at_zero Go.wp_at_succ
structure Ac where
 kind:Int
 dir:Int
 tq:Int
 n:Int
 s:ByteArray
 ad:ByteArray
 sn:Int
 kd:Int
 mo:Int
 ui:Int
 gi:Int
 li:Int
 si:Int
 am:Int
 an:Int
def Ac.cs (x:Ac):Array Value:=#[I x.kind,I x.dir,I x.tq,I x.n,.string x.s,.string x.ad,I x.sn,I x.kd,I x.mo,I x.ui,I x.gi,I x.li,I x.si,I x.am,I x.an]
def Ac.v (x:Ac):Value:=.agg x.cs
structure Ac.Ok (x:Ac):Prop where
 dir:(kl x.dir).wf=true
 tq:(kl x.tq).wf=true
 an:(kl x.an).wf=true
 s:x.s.size≤100000
 ad:x.ad.size≤100000
def both (T:Tr) (x:Ac):Bool:=(T.nd x.tq).isSome && (T.nd x.an).isSome
def bindT (T:Tr) (M:Mt.T) (x:Ac):Tr:=if both T x=true∧Mt.bindE M.es x.am x.an=0 then (T.hold x.tq).hold x.an else T
def bindM (T:Tr) (M:Mt.T) (x:Ac):Mt.T:=if both T x=true then M.bind x.am x.an x.tq else M
def Stp (x:Ac) (T T':Tr) (M M':Mt.T):Prop :=
 (x.kind=1∧T'=T.make x.dir x.s x.kd x.mo x.ui x.gi x.ad∧M'=M) ∨ (x.kind=2∧T'=T.join x.dir x.s x.tq∧M'=M) ∨ (x.kind=3∧T'=T.part x.dir x.s∧M'=M) ∨
 (x.kind=4∧(∃ l,Ab T x.tq l∧T'=T.move l x.dir x.s x.tq x.ad)∧M'=M) ∨ (x.kind=5∧T'=T.setMode x.dir x.n∧M'=M) ∨ (x.kind=6∧T'=bindT T M x∧M'=bindM T M x) ∨
 (x.kind=7∧T'=T∧M'=M.unbind x.n) ∨ (T'=T.setOwner x.dir x.n x.tq∧M'=M)
structure By (t m r R l0 l1 yb yx:Nat) (cs:Array Value) (B:Nat) (K:Int) (w W0 W:World) (T T2:Tr) (M M2:Mt.T) (rs:List Mt.Rm):Prop where
 s:Bx t m r R l0 l1 B K w W T T2 M M2 rs
 hb:W.heap[yb]?=some (.cells #[P0 t,P0 m,P0 r,P0 (R + 1)] 46)
 hx:W.heap[yx]?=some (.cells cs 52)
 kp:Kp W0 W
section
variable {t m r R l0 l1 yb yx B B':Nat} {cs:Array Value} {K K':Int} {w W0 W W':World} {T T' T2 T2':Tr} {M M' M2 M2':Mt.T} {rs rs':List Mt.Rm}
theorem By.step (h:By t m r R l0 l1 yb yx cs B K w W0 W T T2 M M2 rs) (g:Bx t m r R l0 l1 B' K' w W' T' T2' M' M2' rs'∧Kp W W'):By t m r R l0 l1 yb yx cs B' K' w W0 W' T' T2' M' M2' rs':=⟨g.1,g.2 _ _ _ _ h.hb own_both,g.2 _ _ _ _ h.hx own_act,h.kp.trans g.2⟩
theorem By.below (h:By t m r R l0 l1 yb yx cs B K w W0 W T T2 M M2 rs) (g:Below W.heap.size W W'):By t m r R l0 l1 yb yx cs B K w W0 W' T T2 M M2 rs:=h.step ⟨h.s.below g,Bx.kpb g⟩
theorem By.drew (h:By t m r R l0 l1 yb yx cs B K w W0 W T T2 M M2 rs):By t m r R l0 l1 yb yx cs B K w W0 W.drew T T2 M M2 rs:=h.below ⟨rfl,rfl,rfl,Nat.le_refl _,fun _ _=>rfl⟩
theorem By.alloc (h:By t m r R l0 l1 yb yx cs B K w W0 W T T2 M M2 rs) (ob:Obj):By t m r R l0 l1 yb yx cs B K w W0 (W.alloc ob) T T2 M M2 rs:=h.below ((Below.refl _ W).alloc (Nat.le_refl _) ob)
theorem By.cb (h:By t m r R l0 l1 yb yx cs B K w W0 W T T2 M M2 rs):W.cell? ⟨yb,0,none⟩=some (P0 t)∧W.cell? ⟨yb,1,none⟩=some (P0 m)∧W.cell? ⟨yb,2,none⟩=some (P0 r)∧W.cell? ⟨yb,3,none⟩=some (P0 (R + 1)):=by
 refine ⟨?_,?_,?_,?_⟩ <;> (rw [cell_of h.hb];rfl)
theorem By.cx {a0 a1 a2 a3 a4 a5 a6 a7 a8 a9 a10 a11 a12 a13 a14:Value} (h:By t m r R l0 l1 yb yx #[a0,a1,a2,a3,a4,a5,a6,a7,a8,a9,a10,a11,a12,a13,a14] B K w W0 W T T2 M M2 rs):W.cell? ⟨yx,0,none⟩=some a0∧W.cell? ⟨yx,1,none⟩=some a1∧W.cell? ⟨yx,2,none⟩=some a2∧W.cell? ⟨yx,3,none⟩=some a3∧W.cell? ⟨yx,4,none⟩=some a4∧W.cell? ⟨yx,5,none⟩=some a5∧W.cell? ⟨yx,6,none⟩=some a6∧W.cell? ⟨yx,7,none⟩=some a7∧W.cell? ⟨yx,8,none⟩=some a8∧W.cell? ⟨yx,9,none⟩=some a9∧W.cell? ⟨yx,10,none⟩=some a10∧W.cell? ⟨yx,11,none⟩=some a11∧W.cell? ⟨yx,12,none⟩=some a12∧W.cell? ⟨yx,13,none⟩=some a13∧W.cell? ⟨yx,14,none⟩=some a14:=by
 refine ⟨?_,?_,?_,?_,?_,?_,?_,?_,?_,?_,?_,?_,?_,?_,?_⟩ <;> (rw [cell_of h.hx];rfl)
theorem Bx.boxes (s:Bx t m r R l0 l1 B K w W T T2 M M2 rs) (cs:Array Value):∃ V,(W.alloc (.cells #[P0 t,P0 m,P0 r,P0 (R + 1)] 46)).alloc (.cells cs 52)=V∧By t m r R l0 l1 W.heap.size (W.heap.size + 1) cs B K w W V T T2 M M2 rs:=by
 have h1:Below W.heap.size W (W.alloc (.cells #[P0 t,P0 m,P0 r,P0 (R + 1)] 46)):=(Below.refl _ W).alloc (Nat.le_refl _) _
 have h2:Below (W.heap.size + 1) (W.alloc (.cells #[P0 t,P0 m,P0 r,P0 (R + 1)] 46)) ((W.alloc (.cells #[P0 t,P0 m,P0 r,P0 (R + 1)] 46)).alloc (.cells cs 52)):=(Below.refl _ _).alloc (by simp) _
 refine ⟨_,rfl,s.below (h1.trans (h2.mono (by omega))),?_,putAll _ _ (by simp),Bx.kpb (h1.trans (h2.mono (by omega)))⟩
 rw [h2.block _ (by omega)]
 exact putAll _ _ rfl
theorem dStat_D (s:Bx t m r R l0 l1 B K w W T T2 M M2 rs) (hB:B≤860) {n:Int} (hn:(kl n).wf=true) (f:Bool) (hf:(T2.nd n).isSome=f) :
  Calls Tryz.prog 88 #[P0 r,I n] W fun e w'=>∃ a0 a1 a2 a3 a4 a5 a6:Int,e=.returned (.tuple #[.agg #[I a0,I a1,I a2,I a3,I a4,I a5,I a6],.bool f])∧Below W.heap.size W w':=by
 obtain ⟨p,Lv,nb,ev,uv,h,hu⟩:=s.d
 cases hx:T2.nd n with
 | none =>
  rw [hx] at hf
  subst hf
  refine (Rf.dStat_none h s.f (by omega) n hn hx).mono ?_
  rintro e w' ⟨h1,h2⟩
  exact ⟨0,0,0,0,0,0,0,h1,h2⟩
 | some x =>
  rw [hx] at hf
  subst hf
  refine (Rf.dStat_some h s.f (by omega) n hn hx).mono ?_
  rintro e w' ⟨h1,h2⟩
  obtain ⟨a,b,c,d,e',f,g,h3⟩:=T2.stat_form n
  have h4:T2.statV n x=stV a b c d e' f g:=by
   rw [Tr.stat,hx] at h3
   exact h3
  rw [h4] at h1
  exact ⟨a,b,c,d,e',f,g,h1,h2⟩
theorem bind_any (S:Bx t m r R l0 l1 B K w W T T M M rs) (hB:B≤850) (hK:K≤80) (x:Ac) (hx:x.Ok) :
  Calls Tryz.prog 98 #[.agg #[P0 t,P0 m,P0 r,P0 (R + 1)],x.v] W fun e w'=>e=.returned (.bool true)∧Hid (∃ rs',Bx t m r R l0 l1 (B + 4) (K + 1) w w' (bindT T M x) (bindT T M x) (bindM T M x) (bindM T M x) rs'∧Kp W w'):=by
 obtain ⟨h1,h2,h3,-,-⟩:=hx
 obtain ⟨TT,hTT⟩:∃ y,bindT T M x=y:=⟨_,rfl⟩
 obtain ⟨MM,hMM⟩:∃ y,bindM T M x=y:=⟨_,rfl⟩
 rw [hTT,hMM]
 obtain ⟨kind,dir,tq,n,s,ad,sn,kd,mo,ui,gi,li,si,am,an⟩:=x
 simp only at h1 h2 h3
 simp only [bindT,bindM,both] at hTT hMM
 simp only [Ac.v,Ac.cs]
 obtain ⟨f1,hf1⟩:∃ f,(T.nd tq).isSome=f:=⟨_,rfl⟩
 obtain ⟨f2,hf2⟩:∃ f,(T.nd an).isSome=f:=⟨_,rfl⟩
 simp only [hf1,hf2] at hTT hMM
 obtain ⟨V,hV,Y⟩:=S.boxes #[I kind,I dir,I tq,I n,.string s,.string ad,I sn,I kd,I mo,I ui,I gi,I li,I si,I am,I an]
 generalize hyb:W.heap.size=yb at *
 generalize hyx:yb + 1=yx at *
 have HS:=hide S
 have HY:=hide Y
 have HF1:=hide hf1
 have HF2:=hide hf2
 have HZ:=hide (⟨hyb,hyx⟩:_∧_)
 obtain ⟨b0,b1,b2,b3⟩:=Y.cb
 obtain ⟨x0,x1,x2,x3,x4,x5,x6,x7,x8,x9,x10,x11,x12,x13,x14⟩:=Y.cx
 obtain ⟨q,hq⟩:∃ q,Mt.bindE M.es am an=q:=⟨_,rfl⟩
 obtain ⟨q2,hq2⟩:∃ q,M.bindN am an=q:=⟨_,rfl⟩
 simp only [hq] at hTT
 have HTT:=hide hTT
 have HMM:=hide hMM
 clear hTT hMM
 have HQ:=hide hq
 have HQ2:=hide hq2
 clear S Y hf1 hf2 hq hq2
 cases f1 with
 | false =>
  cases f2 with
  | false =>
   go_enter Tryz.func98,Tryz.ntmps98
   go_wp2_with (first
    | (go_at_call 88;refine (dStat_D (unhide HY).s (by omega) h2 _ (unhide HF1)).mono ?_;rintro e u1 ⟨a0,a1,a2,a3,a4,a5,a6,rfl,hu1⟩;have HY1:=hide (((unhide HY).below hu1).alloc (.cells #[I a0,I a1,I a2,I a3,I a4,I a5,I a6] 33));clear HY;clear b0 b1 b2 b3 x0 x1 x2 x3 x4 x5 x6 x7 x8 x9 x10 x11 x12 x13 x14;obtain ⟨b0,b1,b2,b3⟩:=(unhide HY1).cb;obtain ⟨x0,x1,x2,x3,x4,x5,x6,x7,x8,x9,x10,x11,x12,x13,x14⟩:=(unhide HY1).cx;clear hu1)
    | (go_at_call 88;refine (dStat_D (unhide HY1).s (by omega) h3 _ (unhide HF2)).mono ?_;rintro e u2 ⟨c0,c1,c2,c3,c4,c5,c6,rfl,hu2⟩;have HY2:=hide (((unhide HY1).below hu2).alloc (.cells #[I c0,I c1,I c2,I c3,I c4,I c5,I c6] 33));clear HY1;clear b0 b1 b2 b3 x0 x1 x2 x3 x4 x5 x6 x7 x8 x9 x10 x11 x12 x13 x14;obtain ⟨b0,b1,b2,b3⟩:=(unhide HY2).cb;obtain ⟨x0,x1,x2,x3,x4,x5,x6,x7,x8,x9,x10,x11,x12,x13,x14⟩:=(unhide HY2).cx;clear hu2))
   go_ret
   exact ⟨rfl,hide ⟨rs,by rw [← show T=TT by simpa using unhide HTT,← show M=MM by simpa using unhide HMM];exact (unhide HY2).s.mono (B':=B + 4) (K':=K + 1) (by omega) (by omega),(unhide HY2).kp⟩⟩
  | true =>
   go_enter Tryz.func98,Tryz.ntmps98
   go_wp2_with (first
    | (go_at_call 88;refine (dStat_D (unhide HY).s (by omega) h2 _ (unhide HF1)).mono ?_;rintro e u1 ⟨a0,a1,a2,a3,a4,a5,a6,rfl,hu1⟩;have HY1:=hide (((unhide HY).below hu1).alloc (.cells #[I a0,I a1,I a2,I a3,I a4,I a5,I a6] 33));clear HY;clear b0 b1 b2 b3 x0 x1 x2 x3 x4 x5 x6 x7 x8 x9 x10 x11 x12 x13 x14;obtain ⟨b0,b1,b2,b3⟩:=(unhide HY1).cb;obtain ⟨x0,x1,x2,x3,x4,x5,x6,x7,x8,x9,x10,x11,x12,x13,x14⟩:=(unhide HY1).cx;clear hu1)
    | (go_at_call 88;refine (dStat_D (unhide HY1).s (by omega) h3 _ (unhide HF2)).mono ?_;rintro e u2 ⟨c0,c1,c2,c3,c4,c5,c6,rfl,hu2⟩;have HY2:=hide (((unhide HY1).below hu2).alloc (.cells #[I c0,I c1,I c2,I c3,I c4,I c5,I c6] 33));clear HY1;clear b0 b1 b2 b3 x0 x1 x2 x3 x4 x5 x6 x7 x8 x9 x10 x11 x12 x13 x14;obtain ⟨b0,b1,b2,b3⟩:=(unhide HY2).cb;obtain ⟨x0,x1,x2,x3,x4,x5,x6,x7,x8,x9,x10,x11,x12,x13,x14⟩:=(unhide HY2).cx;clear hu2))
   go_ret
   exact ⟨rfl,hide ⟨rs,by rw [← show T=TT by simpa using unhide HTT,← show M=MM by simpa using unhide HMM];exact (unhide HY2).s.mono (B':=B + 4) (K':=K + 1) (by omega) (by omega),(unhide HY2).kp⟩⟩
 | true =>
  cases f2 with
  | false =>
   go_enter Tryz.func98,Tryz.ntmps98
   go_wp2_with (first
    | (go_at_call 88;refine (dStat_D (unhide HY).s (by omega) h2 _ (unhide HF1)).mono ?_;rintro e u1 ⟨a0,a1,a2,a3,a4,a5,a6,rfl,hu1⟩;have HY1:=hide (((unhide HY).below hu1).alloc (.cells #[I a0,I a1,I a2,I a3,I a4,I a5,I a6] 33));clear HY;clear b0 b1 b2 b3 x0 x1 x2 x3 x4 x5 x6 x7 x8 x9 x10 x11 x12 x13 x14;obtain ⟨b0,b1,b2,b3⟩:=(unhide HY1).cb;obtain ⟨x0,x1,x2,x3,x4,x5,x6,x7,x8,x9,x10,x11,x12,x13,x14⟩:=(unhide HY1).cx;clear hu1)
    | (go_at_call 88;refine (dStat_D (unhide HY1).s (by omega) h3 _ (unhide HF2)).mono ?_;rintro e u2 ⟨c0,c1,c2,c3,c4,c5,c6,rfl,hu2⟩;have HY2:=hide (((unhide HY1).below hu2).alloc (.cells #[I c0,I c1,I c2,I c3,I c4,I c5,I c6] 33));clear HY1;clear b0 b1 b2 b3 x0 x1 x2 x3 x4 x5 x6 x7 x8 x9 x10 x11 x12 x13 x14;obtain ⟨b0,b1,b2,b3⟩:=(unhide HY2).cb;obtain ⟨x0,x1,x2,x3,x4,x5,x6,x7,x8,x9,x10,x11,x12,x13,x14⟩:=(unhide HY2).cx;clear hu2))
   go_ret
   exact ⟨rfl,hide ⟨rs,by rw [← show T=TT by simpa using unhide HTT,← show M=MM by simpa using unhide HMM];exact (unhide HY2).s.mono (B':=B + 4) (K':=K + 1) (by omega) (by omega),(unhide HY2).kp⟩⟩
  | true =>
   by_cases hq0:q=0
   ·subst hq0
    go_enter Tryz.func98,Tryz.ntmps98
    go_wp2_with (first
     | (go_at_call 88;refine (dStat_D (unhide HY).s (by omega) h2 _ (unhide HF1)).mono ?_;rintro e u1 ⟨a0,a1,a2,a3,a4,a5,a6,rfl,hu1⟩;have HY1:=hide (((unhide HY).below hu1).alloc (.cells #[I a0,I a1,I a2,I a3,I a4,I a5,I a6] 33));clear HY;clear b0 b1 b2 b3 x0 x1 x2 x3 x4 x5 x6 x7 x8 x9 x10 x11 x12 x13 x14;obtain ⟨b0,b1,b2,b3⟩:=(unhide HY1).cb;obtain ⟨x0,x1,x2,x3,x4,x5,x6,x7,x8,x9,x10,x11,x12,x13,x14⟩:=(unhide HY1).cx;clear hu1)
     | (go_at_call 88;refine (dStat_D (unhide HY1).s (by omega) h3 _ (unhide HF2)).mono ?_;rintro e u2 ⟨c0,c1,c2,c3,c4,c5,c6,rfl,hu2⟩;have HY2:=hide (((unhide HY1).below hu2).alloc (.cells #[I c0,I c1,I c2,I c3,I c4,I c5,I c6] 33));clear HY1;clear b0 b1 b2 b3 x0 x1 x2 x3 x4 x5 x6 x7 x8 x9 x10 x11 x12 x13 x14;obtain ⟨b0,b1,b2,b3⟩:=(unhide HY2).cb;obtain ⟨x0,x1,x2,x3,x4,x5,x6,x7,x8,x9,x10,x11,x12,x13,x14⟩:=(unhide HY2).cx;clear hu2)
     | (go_at_call 148;refine (mBind (unhide HY2).s (by omega) am an tq).mono ?_;rintro e u3 ⟨rfl,G3⟩;rw [unhide HQ,unhide HQ2];have HY3:=hide ((unhide HY2).step (unhide G3));clear HY2;clear b0 b1 b2 b3 x0 x1 x2 x3 x4 x5 x6 x7 x8 x9 x10 x11 x12 x13 x14;obtain ⟨b0,b1,b2,b3⟩:=(unhide HY3).cb;obtain ⟨x0,x1,x2,x3,x4,x5,x6,x7,x8,x9,x10,x11,x12,x13,x14⟩:=(unhide HY3).cx;clear G3)
     | (go_at_call 149;refine (rBind (unhide HY3).s (by omega) (unhide HS).mf (Int.le_refl _) am an tq).mono ?_;rintro e u4 ⟨rfl,G4⟩;obtain ⟨rs4,G4⟩:=unhide G4;rw [unhide HQ,unhide HQ2];have HY4:=hide ((unhide HY3).step G4);clear HY3;clear b0 b1 b2 b3 x0 x1 x2 x3 x4 x5 x6 x7 x8 x9 x10 x11 x12 x13 x14;obtain ⟨b0,b1,b2,b3⟩:=(unhide HY4).cb;obtain ⟨x0,x1,x2,x3,x4,x5,x6,x7,x8,x9,x10,x11,x12,x13,x14⟩:=(unhide HY4).cx;clear G4)
     | (go_at_call 63;refine (tHold (unhide HY4).s (by omega) h2).mono ?_;rintro e u5 ⟨rfl,G5⟩;have HY5:=hide ((unhide HY4).step (unhide G5));clear HY4;clear b0 b1 b2 b3 x0 x1 x2 x3 x4 x5 x6 x7 x8 x9 x10 x11 x12 x13 x14;obtain ⟨b0,b1,b2,b3⟩:=(unhide HY5).cb;obtain ⟨x0,x1,x2,x3,x4,x5,x6,x7,x8,x9,x10,x11,x12,x13,x14⟩:=(unhide HY5).cx;clear G5)
     | (go_at_call 63;refine (tHold (unhide HY5).s (by omega) h3).mono ?_;rintro e u6 ⟨rfl,G6⟩;have HY6:=hide ((unhide HY5).step (unhide G6));clear HY5;clear b0 b1 b2 b3 x0 x1 x2 x3 x4 x5 x6 x7 x8 x9 x10 x11 x12 x13 x14;obtain ⟨b0,b1,b2,b3⟩:=(unhide HY6).cb;obtain ⟨x0,x1,x2,x3,x4,x5,x6,x7,x8,x9,x10,x11,x12,x13,x14⟩:=(unhide HY6).cx;clear G6)
     | (go_at_call 71;refine (dHold (unhide HY6).s (by omega) h2).mono ?_;rintro e u7 ⟨rfl,G7⟩;have HY7:=hide ((unhide HY6).step (unhide G7));clear HY6;clear b0 b1 b2 b3 x0 x1 x2 x3 x4 x5 x6 x7 x8 x9 x10 x11 x12 x13 x14;obtain ⟨b0,b1,b2,b3⟩:=(unhide HY7).cb;obtain ⟨x0,x1,x2,x3,x4,x5,x6,x7,x8,x9,x10,x11,x12,x13,x14⟩:=(unhide HY7).cx;clear G7)
     | (go_at_call 71;refine (dHold (unhide HY7).s (by omega) h3).mono ?_;rintro e u8 ⟨rfl,G8⟩;have HY8:=hide ((unhide HY7).step (unhide G8));clear HY7;clear b0 b1 b2 b3 x0 x1 x2 x3 x4 x5 x6 x7 x8 x9 x10 x11 x12 x13 x14;obtain ⟨b0,b1,b2,b3⟩:=(unhide HY8).cb;obtain ⟨x0,x1,x2,x3,x4,x5,x6,x7,x8,x9,x10,x11,x12,x13,x14⟩:=(unhide HY8).cx;clear G8))
    go_ret
    exact ⟨rfl,hide ⟨rs4,by rw [← show (T.hold tq).hold an=TT by simpa using unhide HTT,← show M.bind am an tq=MM by simpa using unhide HMM];exact (unhide HY8).s.mono (B':=B + 4) (K':=K + 1) (by omega) (by omega),(unhide HY8).kp⟩⟩
   ·have hqb:(q == 0)=false:=by simpa using hq0
    go_enter Tryz.func98,Tryz.ntmps98
    go_wp2_with (first
     | (go_at_call 88;refine (dStat_D (unhide HY).s (by omega) h2 _ (unhide HF1)).mono ?_;rintro e u1 ⟨a0,a1,a2,a3,a4,a5,a6,rfl,hu1⟩;have HY1:=hide (((unhide HY).below hu1).alloc (.cells #[I a0,I a1,I a2,I a3,I a4,I a5,I a6] 33));clear HY;clear b0 b1 b2 b3 x0 x1 x2 x3 x4 x5 x6 x7 x8 x9 x10 x11 x12 x13 x14;obtain ⟨b0,b1,b2,b3⟩:=(unhide HY1).cb;obtain ⟨x0,x1,x2,x3,x4,x5,x6,x7,x8,x9,x10,x11,x12,x13,x14⟩:=(unhide HY1).cx;clear hu1)
     | (go_at_call 88;refine (dStat_D (unhide HY1).s (by omega) h3 _ (unhide HF2)).mono ?_;rintro e u2 ⟨c0,c1,c2,c3,c4,c5,c6,rfl,hu2⟩;have HY2:=hide (((unhide HY1).below hu2).alloc (.cells #[I c0,I c1,I c2,I c3,I c4,I c5,I c6] 33));clear HY1;clear b0 b1 b2 b3 x0 x1 x2 x3 x4 x5 x6 x7 x8 x9 x10 x11 x12 x13 x14;obtain ⟨b0,b1,b2,b3⟩:=(unhide HY2).cb;obtain ⟨x0,x1,x2,x3,x4,x5,x6,x7,x8,x9,x10,x11,x12,x13,x14⟩:=(unhide HY2).cx;clear hu2)
     | (go_at_call 148;refine (mBind (unhide HY2).s (by omega) am an tq).mono ?_;rintro e u3 ⟨rfl,G3⟩;rw [unhide HQ,unhide HQ2];have HY3:=hide ((unhide HY2).step (unhide G3));clear HY2;clear b0 b1 b2 b3 x0 x1 x2 x3 x4 x5 x6 x7 x8 x9 x10 x11 x12 x13 x14;obtain ⟨b0,b1,b2,b3⟩:=(unhide HY3).cb;obtain ⟨x0,x1,x2,x3,x4,x5,x6,x7,x8,x9,x10,x11,x12,x13,x14⟩:=(unhide HY3).cx;clear G3)
     | (go_at_call 149;refine (rBind (unhide HY3).s (by omega) (unhide HS).mf (Int.le_refl _) am an tq).mono ?_;rintro e u4 ⟨rfl,G4⟩;obtain ⟨rs4,G4⟩:=unhide G4;rw [unhide HQ,unhide HQ2];have HY4:=hide ((unhide HY3).step G4);clear HY3;clear b0 b1 b2 b3 x0 x1 x2 x3 x4 x5 x6 x7 x8 x9 x10 x11 x12 x13 x14;obtain ⟨b0,b1,b2,b3⟩:=(unhide HY4).cb;obtain ⟨x0,x1,x2,x3,x4,x5,x6,x7,x8,x9,x10,x11,x12,x13,x14⟩:=(unhide HY4).cx;clear G4))
    go_ret
    exact ⟨rfl,hide ⟨rs4,by rw [← show T=TT by simpa [hq0] using unhide HTT,← show M.bind am an tq=MM by simpa using unhide HMM];exact (unhide HY4).s.mono (B':=B + 4) (K':=K + 1) (by omega) (by omega),(unhide HY4).kp⟩⟩
theorem do1 (S:Bx t m r R l0 l1 B K w W T T M M rs) (hB:B≤850) (_hK:K≤80) (x:Ac) (hx:x.Ok) (hk:x.kind=1) :
  Calls Tryz.prog 26 #[.agg #[P0 t,P0 m,P0 r,P0 (R + 1)],x.v] W fun e w'=>e=.returned (.bool true)∧Hid (∃ T' M' rs',Stp x T T' M M'∧Bx t m r R l0 l1 (B + 4) (K + 1) w w' T' T' M' M' rs'∧Kp W w'):=by
 have hok:=hide hx
 obtain ⟨h1,h2,h3,h4,h5⟩:=hx
 have HX:=hide (fun (T':Tr) (M':Mt.T) (rs':List Mt.Rm) (W':World) (g:Stp x T T' M M') (s:Bx t m r R l0 l1 (B + 4) (K + 1) w W' T' T' M' M' rs') (kp:Kp W W')=>(⟨T',M',rs',g,s,kp⟩:∃ T' M' rs',Stp x T T' M M'∧Bx t m r R l0 l1 (B + 4) (K + 1) w W' T' T' M' M' rs'∧Kp W W'))
 obtain ⟨kind,dir,tq,n,s,ad,sn,kd,mo,ui,gi,li,si,am,an⟩:=x
 simp only at h1 h2 h3 h4 h5 hk
 simp only [Ac.v,Ac.cs]
 obtain ⟨V,hV,Y⟩:=S.boxes #[I kind,I dir,I tq,I n,.string s,.string ad,I sn,I kd,I mo,I ui,I gi,I li,I si,I am,I an]
 generalize hyb:W.heap.size=yb at *
 generalize hyx:yb + 1=yx at *
 have HS:=hide S
 have HY:=hide Y
 have HZ:=hide (⟨hyb,hyx⟩:_∧_)
 obtain ⟨b0,b1,b2,b3⟩:=Y.cb
 obtain ⟨x0,x1,x2,x3,x4,x5,x6,x7,x8,x9,x10,x11,x12,x13,x14⟩:=Y.cx
 clear S Y
 subst hk
 obtain ⟨q1,hq1⟩:∃ q,T.makeN dir s kd ad=q:=⟨_,rfl⟩
 obtain ⟨q2,hq2⟩:∃ q,T.makeE dir s kd ad=q:=⟨_,rfl⟩
 have HQ:=hide hq1
 have HQ2:=hide hq2
 have h6:ad.size≤281474976710656:=by omega
 clear hq1 hq2
 go_enter Tryz.func26,Tryz.ntmps26
 go_wp2_with (first
  | (go_at_call 62;refine (tMake (unhide HY).s (by omega) h1 s sn kd mo ui gi li si ad h6).mono ?_;rintro e u1 ⟨rfl,G1⟩;rw [unhide HQ,unhide HQ2];have HY1:=hide ((unhide HY).step (unhide G1));clear HY;clear b0 b1 b2 b3 x0 x1 x2 x3 x4 x5 x6 x7 x8 x9 x10 x11 x12 x13 x14;obtain ⟨b0,b1,b2,b3⟩:=(unhide HY1).cb;obtain ⟨x0,x1,x2,x3,x4,x5,x6,x7,x8,x9,x10,x11,x12,x13,x14⟩:=(unhide HY1).cx;clear G1)
  | (go_at_call 65;refine (dMake (unhide HY1).s (by omega) h1 s h4 sn kd mo ui gi li si ad h6).mono ?_;rintro e u2 ⟨rfl,G2⟩;rw [unhide HQ,unhide HQ2];have HY2:=hide ((unhide HY1).step (unhide G2));clear HY1;clear b0 b1 b2 b3 x0 x1 x2 x3 x4 x5 x6 x7 x8 x9 x10 x11 x12 x13 x14;obtain ⟨b0,b1,b2,b3⟩:=(unhide HY2).cb;obtain ⟨x0,x1,x2,x3,x4,x5,x6,x7,x8,x9,x10,x11,x12,x13,x14⟩:=(unhide HY2).cx;clear G2))
 go_ret
 exact ⟨rfl,hide (unhide HX _ _ _ _ (.inl ⟨rfl,rfl,rfl⟩) ((unhide HY2).s.mono (B':=B + 4) (K':=K + 1) (by omega) (by omega)) (unhide HY2).kp)⟩
theorem do6 (S:Bx t m r R l0 l1 B K w W T T M M rs) (hB:B≤850) (hK:K≤80) (x:Ac) (hx:x.Ok) (hk:x.kind=6) :
  Calls Tryz.prog 26 #[.agg #[P0 t,P0 m,P0 r,P0 (R + 1)],x.v] W fun e w'=>e=.returned (.bool true)∧Hid (∃ T' M' rs',Stp x T T' M M'∧Bx t m r R l0 l1 (B + 4) (K + 1) w w' T' T' M' M' rs'∧Kp W w'):=by
 have hok:=hide hx
 obtain ⟨h1,h2,h3,h4,h5⟩:=hx
 have HX:=hide (fun (T':Tr) (M':Mt.T) (rs':List Mt.Rm) (W':World) (g:Stp x T T' M M') (s:Bx t m r R l0 l1 (B + 4) (K + 1) w W' T' T' M' M' rs') (kp:Kp W W')=>(⟨T',M',rs',g,s,kp⟩:∃ T' M' rs',Stp x T T' M M'∧Bx t m r R l0 l1 (B + 4) (K + 1) w W' T' T' M' M' rs'∧Kp W W'))
 obtain ⟨kind,dir,tq,n,s,ad,sn,kd,mo,ui,gi,li,si,am,an⟩:=x
 simp only at h1 h2 h3 h4 h5 hk
 simp only [Ac.v,Ac.cs]
 obtain ⟨V,hV,Y⟩:=S.boxes #[I kind,I dir,I tq,I n,.string s,.string ad,I sn,I kd,I mo,I ui,I gi,I li,I si,I am,I an]
 generalize hyb:W.heap.size=yb at *
 generalize hyx:yb + 1=yx at *
 have HS:=hide S
 have HY:=hide Y
 have HZ:=hide (⟨hyb,hyx⟩:_∧_)
 obtain ⟨b0,b1,b2,b3⟩:=Y.cb
 obtain ⟨x0,x1,x2,x3,x4,x5,x6,x7,x8,x9,x10,x11,x12,x13,x14⟩:=Y.cx
 clear S Y
 subst hk
 have HC:=hide (fun (V:World) (S:Bx t m r R l0 l1 B K w V T T M M rs)=>bind_any S hB hK ⟨6,dir,tq,n,s,ad,sn,kd,mo,ui,gi,li,si,am,an⟩ (unhide hok))
 simp only [Ac.v,Ac.cs] at HC
 go_enter Tryz.func26,Tryz.ntmps26
 go_wp2_with (go_at_call 98;refine (unhide HC _ (unhide HY).s).mono ?_;rintro e u1 ⟨rfl,G1⟩)
 go_ret
 obtain ⟨rs1,g1,g2⟩:=unhide G1
 exact ⟨rfl,hide (unhide HX _ _ _ _ (.inr (.inr (.inr (.inr (.inr (.inl ⟨rfl,rfl,rfl⟩)))))) g1 ((unhide HY).kp.trans g2))⟩
theorem do2 (S:Bx t m r R l0 l1 B K w W T T M M rs) (hB:B≤850) (_hK:K≤80) (x:Ac) (hx:x.Ok) (hk:x.kind=2) :
  Calls Tryz.prog 26 #[.agg #[P0 t,P0 m,P0 r,P0 (R + 1)],x.v] W fun e w'=>e=.returned (.bool true)∧Hid (∃ T' M' rs',Stp x T T' M M'∧Bx t m r R l0 l1 (B + 4) (K + 1) w w' T' T' M' M' rs'∧Kp W w'):=by
 have hok:=hide hx
 obtain ⟨h1,h2,h3,h4,h5⟩:=hx
 have HX:=hide (fun (T':Tr) (M':Mt.T) (rs':List Mt.Rm) (W':World) (g:Stp x T T' M M') (s:Bx t m r R l0 l1 (B + 4) (K + 1) w W' T' T' M' M' rs') (kp:Kp W W')=>(⟨T',M',rs',g,s,kp⟩:∃ T' M' rs',Stp x T T' M M'∧Bx t m r R l0 l1 (B + 4) (K + 1) w W' T' T' M' M' rs'∧Kp W W'))
 obtain ⟨kind,dir,tq,n,s,ad,sn,kd,mo,ui,gi,li,si,am,an⟩:=x
 simp only at h1 h2 h3 h4 h5 hk
 simp only [Ac.v,Ac.cs]
 obtain ⟨V,hV,Y⟩:=S.boxes #[I kind,I dir,I tq,I n,.string s,.string ad,I sn,I kd,I mo,I ui,I gi,I li,I si,I am,I an]
 generalize hyb:W.heap.size=yb at *
 generalize hyx:yb + 1=yx at *
 have HS:=hide S
 have HY:=hide Y
 have HZ:=hide (⟨hyb,hyx⟩:_∧_)
 obtain ⟨b0,b1,b2,b3⟩:=Y.cb
 obtain ⟨x0,x1,x2,x3,x4,x5,x6,x7,x8,x9,x10,x11,x12,x13,x14⟩:=Y.cx
 clear S Y
 subst hk
 obtain ⟨q1,hq1⟩:∃ q,T.joinE dir s tq=q:=⟨_,rfl⟩
 have HQ:=hide hq1
 clear hq1
 go_enter Tryz.func26,Tryz.ntmps26
 go_wp2_with fail
 go_region_held3 (fun w'=>w'.cell? ⟨yb,0,none⟩=some (P0 t)∧w'.cell? ⟨yb,2,none⟩=some (P0 r)∧w'.cell? ⟨yx,1,none⟩=some (I dir)∧w'.cell? ⟨yx,2,none⟩=some (I tq)∧w'.cell? ⟨yx,4,none⟩=some (.string s)) (go_keep)
  (first
   | (go_at_call 66;refine (tJoin (unhide HY).drew.s (by omega) h1 h2 s).mono ?_;rintro e u1 ⟨rfl,G1⟩;rw [unhide HQ];have HY1:=hide ((unhide HY).drew.step (unhide G1));obtain ⟨b0,b1,b2,b3⟩:=(unhide HY1).cb;obtain ⟨x0,x1,x2,x3,x4,x5,x6,x7,x8,x9,x10,x11,x12,x13,x14⟩:=(unhide HY1).cx;clear G1)
   | (go_at_call 67;refine (dJoin (unhide HY1).s (by omega) h1 h2 s h4).mono ?_;rintro e u2 ⟨rfl,G2⟩;rw [unhide HQ];have HY2:=hide ((unhide HY1).step (unhide G2));obtain ⟨b0,b1,b2,b3⟩:=(unhide HY2).cb;obtain ⟨x0,x1,x2,x3,x4,x5,x6,x7,x8,x9,x10,x11,x12,x13,x14⟩:=(unhide HY2).cx;clear G2))
 all_goals
  go_wp2_with fail
  go_ret
  exact ⟨rfl,hide (unhide HX _ _ _ _ (.inr (.inl ⟨rfl,rfl,rfl⟩)) ((unhide HY2).s.mono (B':=B + 4) (K':=K + 1) (by omega) (by omega)) (unhide HY2).kp)⟩
theorem do3 (S:Bx t m r R l0 l1 B K w W T T M M rs) (hB:B≤850) (_hK:K≤80) (x:Ac) (hx:x.Ok) (hk:x.kind=3) :
  Calls Tryz.prog 26 #[.agg #[P0 t,P0 m,P0 r,P0 (R + 1)],x.v] W fun e w'=>e=.returned (.bool true)∧Hid (∃ T' M' rs',Stp x T T' M M'∧Bx t m r R l0 l1 (B + 4) (K + 1) w w' T' T' M' M' rs'∧Kp W w'):=by
 have hok:=hide hx
 obtain ⟨h1,h2,h3,h4,h5⟩:=hx
 have HX:=hide (fun (T':Tr) (M':Mt.T) (rs':List Mt.Rm) (W':World) (g:Stp x T T' M M') (s:Bx t m r R l0 l1 (B + 4) (K + 1) w W' T' T' M' M' rs') (kp:Kp W W')=>(⟨T',M',rs',g,s,kp⟩:∃ T' M' rs',Stp x T T' M M'∧Bx t m r R l0 l1 (B + 4) (K + 1) w W' T' T' M' M' rs'∧Kp W W'))
 obtain ⟨kind,dir,tq,n,s,ad,sn,kd,mo,ui,gi,li,si,am,an⟩:=x
 simp only at h1 h2 h3 h4 h5 hk
 simp only [Ac.v,Ac.cs]
 obtain ⟨V,hV,Y⟩:=S.boxes #[I kind,I dir,I tq,I n,.string s,.string ad,I sn,I kd,I mo,I ui,I gi,I li,I si,I am,I an]
 generalize hyb:W.heap.size=yb at *
 generalize hyx:yb + 1=yx at *
 have HS:=hide S
 have HY:=hide Y
 have HZ:=hide (⟨hyb,hyx⟩:_∧_)
 obtain ⟨b0,b1,b2,b3⟩:=Y.cb
 obtain ⟨x0,x1,x2,x3,x4,x5,x6,x7,x8,x9,x10,x11,x12,x13,x14⟩:=Y.cx
 clear S Y
 subst hk
 obtain ⟨q1,hq1⟩:∃ q,T.partE dir s=q:=⟨_,rfl⟩
 have HQ:=hide hq1
 clear hq1
 go_enter Tryz.func26,Tryz.ntmps26
 go_wp2_with fail
 go_region_held3 (fun w'=>w'.cell? ⟨yb,0,none⟩=some (P0 t)∧w'.cell? ⟨yb,2,none⟩=some (P0 r)∧w'.cell? ⟨yx,1,none⟩=some (I dir)∧w'.cell? ⟨yx,4,none⟩=some (.string s)) (go_keep)
  (first
   | (go_at_call 64;refine (tPart (unhide HY).drew.s (by omega) h1 s).mono ?_;rintro e u1 ⟨rfl,G1⟩;rw [unhide HQ];have HY1:=hide ((unhide HY).drew.step (unhide G1));obtain ⟨b0,b1,b2,b3⟩:=(unhide HY1).cb;obtain ⟨x0,x1,x2,x3,x4,x5,x6,x7,x8,x9,x10,x11,x12,x13,x14⟩:=(unhide HY1).cx;clear G1)
   | (go_at_call 68;refine (dPart (unhide HY1).s (by omega) h1 s).mono ?_;rintro e u2 ⟨rfl,G2⟩;rw [unhide HQ];have HY2:=hide ((unhide HY1).step (unhide G2));obtain ⟨b0,b1,b2,b3⟩:=(unhide HY2).cb;obtain ⟨x0,x1,x2,x3,x4,x5,x6,x7,x8,x9,x10,x11,x12,x13,x14⟩:=(unhide HY2).cx;clear G2))
 all_goals
  go_wp2_with fail
  go_ret
  exact ⟨rfl,hide (unhide HX _ _ _ _ (.inr (.inr (.inl ⟨rfl,rfl,rfl⟩))) ((unhide HY2).s.mono (B':=B + 4) (K':=K + 1) (by omega) (by omega)) (unhide HY2).kp)⟩
theorem do4 (S:Bx t m r R l0 l1 B K w W T T M M rs) (hB:B≤850) (_hK:K≤80) (x:Ac) (hx:x.Ok) (hk:x.kind=4) :
  Calls Tryz.prog 26 #[.agg #[P0 t,P0 m,P0 r,P0 (R + 1)],x.v] W fun e w'=>e=.returned (.bool true)∧Hid (∃ T' M' rs',Stp x T T' M M'∧Bx t m r R l0 l1 (B + 4) (K + 1) w w' T' T' M' M' rs'∧Kp W w'):=by
 have hok:=hide hx
 obtain ⟨h1,h2,h3,h4,h5⟩:=hx
 have HX:=hide (fun (T':Tr) (M':Mt.T) (rs':List Mt.Rm) (W':World) (g:Stp x T T' M M') (s:Bx t m r R l0 l1 (B + 4) (K + 1) w W' T' T' M' M' rs') (kp:Kp W W')=>(⟨T',M',rs',g,s,kp⟩:∃ T' M' rs',Stp x T T' M M'∧Bx t m r R l0 l1 (B + 4) (K + 1) w W' T' T' M' M' rs'∧Kp W W'))
 obtain ⟨kind,dir,tq,n,s,ad,sn,kd,mo,ui,gi,li,si,am,an⟩:=x
 simp only at h1 h2 h3 h4 h5 hk
 simp only [Ac.v,Ac.cs]
 obtain ⟨V,hV,Y⟩:=S.boxes #[I kind,I dir,I tq,I n,.string s,.string ad,I sn,I kd,I mo,I ui,I gi,I li,I si,I am,I an]
 generalize hyb:W.heap.size=yb at *
 generalize hyx:yb + 1=yx at *
 have HS:=hide S
 have HY:=hide Y
 have HZ:=hide (⟨hyb,hyx⟩:_∧_)
 obtain ⟨b0,b1,b2,b3⟩:=Y.cb
 obtain ⟨x0,x1,x2,x3,x4,x5,x6,x7,x8,x9,x10,x11,x12,x13,x14⟩:=Y.cx
 clear S Y
 subst hk
 obtain ⟨l,hl⟩:=(unhide HS).q.f.ab tq
 have HL:=hide hl
 clear hl
 obtain ⟨q1,hq1⟩:∃ q,T.moveE l dir s tq ad=q:=⟨_,rfl⟩
 have HQ:=hide hq1
 clear hq1
 go_enter Tryz.func26,Tryz.ntmps26
 go_wp2_with fail
 go_region_held3 (fun w'=>w'.cell? ⟨yb,0,none⟩=some (P0 t)∧w'.cell? ⟨yb,2,none⟩=some (P0 r)∧w'.cell? ⟨yx,1,none⟩=some (I dir)∧w'.cell? ⟨yx,2,none⟩=some (I tq)∧w'.cell? ⟨yx,4,none⟩=some (.string s)∧w'.cell? ⟨yx,5,none⟩=some (.string ad)) (go_keep)
  (first
   | (go_at_call 69;refine (tMove (unhide HY).drew.s (by omega) h1 h2 s ad (unhide HL)).mono ?_;rintro e u1 ⟨rfl,G1⟩;rw [unhide HQ];have HY1:=hide ((unhide HY).drew.step (unhide G1));obtain ⟨b0,b1,b2,b3⟩:=(unhide HY1).cb;obtain ⟨x0,x1,x2,x3,x4,x5,x6,x7,x8,x9,x10,x11,x12,x13,x14⟩:=(unhide HY1).cx;clear G1)
   | (go_at_call 70;refine (dMove (unhide HY1).s (by omega) h1 h2 s ad h5 (unhide HL)).mono ?_;rintro e u2 ⟨rfl,G2⟩;rw [unhide HQ];have HY2:=hide ((unhide HY1).step (unhide G2));obtain ⟨b0,b1,b2,b3⟩:=(unhide HY2).cb;obtain ⟨x0,x1,x2,x3,x4,x5,x6,x7,x8,x9,x10,x11,x12,x13,x14⟩:=(unhide HY2).cx;clear G2))
 all_goals
  go_wp2_with fail
  go_ret
  exact ⟨rfl,hide (unhide HX _ _ _ _ (.inr (.inr (.inr (.inl ⟨rfl,⟨l,unhide HL,rfl⟩,rfl⟩)))) ((unhide HY2).s.mono (B':=B + 4) (K':=K + 1) (by omega) (by omega)) (unhide HY2).kp)⟩
theorem do5 (S:Bx t m r R l0 l1 B K w W T T M M rs) (hB:B≤850) (_hK:K≤80) (x:Ac) (hx:x.Ok) (hk:x.kind=5) :
  Calls Tryz.prog 26 #[.agg #[P0 t,P0 m,P0 r,P0 (R + 1)],x.v] W fun e w'=>e=.returned (.bool true)∧Hid (∃ T' M' rs',Stp x T T' M M'∧Bx t m r R l0 l1 (B + 4) (K + 1) w w' T' T' M' M' rs'∧Kp W w'):=by
 have hok:=hide hx
 obtain ⟨h1,h2,h3,h4,h5⟩:=hx
 have HX:=hide (fun (T':Tr) (M':Mt.T) (rs':List Mt.Rm) (W':World) (g:Stp x T T' M M') (s:Bx t m r R l0 l1 (B + 4) (K + 1) w W' T' T' M' M' rs') (kp:Kp W W')=>(⟨T',M',rs',g,s,kp⟩:∃ T' M' rs',Stp x T T' M M'∧Bx t m r R l0 l1 (B + 4) (K + 1) w W' T' T' M' M' rs'∧Kp W W'))
 obtain ⟨kind,dir,tq,n,s,ad,sn,kd,mo,ui,gi,li,si,am,an⟩:=x
 simp only at h1 h2 h3 h4 h5 hk
 simp only [Ac.v,Ac.cs]
 obtain ⟨V,hV,Y⟩:=S.boxes #[I kind,I dir,I tq,I n,.string s,.string ad,I sn,I kd,I mo,I ui,I gi,I li,I si,I am,I an]
 generalize hyb:W.heap.size=yb at *
 generalize hyx:yb + 1=yx at *
 have HS:=hide S
 have HY:=hide Y
 have HZ:=hide (⟨hyb,hyx⟩:_∧_)
 obtain ⟨b0,b1,b2,b3⟩:=Y.cb
 obtain ⟨x0,x1,x2,x3,x4,x5,x6,x7,x8,x9,x10,x11,x12,x13,x14⟩:=Y.cx
 clear S Y
 subst hk
 obtain ⟨q1,hq1⟩:∃ q,setsE T dir=q:=⟨_,rfl⟩
 have HQ:=hide hq1
 clear hq1
 go_enter Tryz.func26,Tryz.ntmps26
 go_wp2_with fail
 go_region_held3 (fun w'=>w'.cell? ⟨yb,0,none⟩=some (P0 t)∧w'.cell? ⟨yb,2,none⟩=some (P0 r)∧w'.cell? ⟨yx,1,none⟩=some (I dir)∧w'.cell? ⟨yx,3,none⟩=some (I n)) (go_keep)
  (first
   | (go_at_call 40;refine (tSetMode (unhide HY).drew.s h1 n).mono ?_;rintro e u1 ⟨rfl,G1⟩;rw [unhide HQ];have HY1:=hide ((unhide HY).drew.step (unhide G1));obtain ⟨b0,b1,b2,b3⟩:=(unhide HY1).cb;obtain ⟨x0,x1,x2,x3,x4,x5,x6,x7,x8,x9,x10,x11,x12,x13,x14⟩:=(unhide HY1).cx;clear G1)
   | (go_at_call 41;refine (dSetMode (unhide HY1).s (by omega) h1 n).mono ?_;rintro e u2 ⟨rfl,G2⟩;rw [unhide HQ];have HY2:=hide ((unhide HY1).step (unhide G2));obtain ⟨b0,b1,b2,b3⟩:=(unhide HY2).cb;obtain ⟨x0,x1,x2,x3,x4,x5,x6,x7,x8,x9,x10,x11,x12,x13,x14⟩:=(unhide HY2).cx;clear G2))
 all_goals
  go_wp2_with fail
  go_ret
  exact ⟨rfl,hide (unhide HX _ _ _ _ (.inr (.inr (.inr (.inr (.inl ⟨rfl,rfl,rfl⟩))))) ((unhide HY2).s.mono (B':=B + 4) (K':=K + 1) (by omega) (by omega)) (unhide HY2).kp)⟩
theorem do7 (S:Bx t m r R l0 l1 B K w W T T M M rs) (_hB:B≤850) (hK:K≤80) (x:Ac) (hx:x.Ok) (hk:x.kind=7) :
  Calls Tryz.prog 26 #[.agg #[P0 t,P0 m,P0 r,P0 (R + 1)],x.v] W fun e w'=>e=.returned (.bool true)∧Hid (∃ T' M' rs',Stp x T T' M M'∧Bx t m r R l0 l1 (B + 4) (K + 1) w w' T' T' M' M' rs'∧Kp W w'):=by
 have hok:=hide hx
 obtain ⟨h1,h2,h3,h4,h5⟩:=hx
 have HX:=hide (fun (T':Tr) (M':Mt.T) (rs':List Mt.Rm) (W':World) (g:Stp x T T' M M') (s:Bx t m r R l0 l1 (B + 4) (K + 1) w W' T' T' M' M' rs') (kp:Kp W W')=>(⟨T',M',rs',g,s,kp⟩:∃ T' M' rs',Stp x T T' M M'∧Bx t m r R l0 l1 (B + 4) (K + 1) w W' T' T' M' M' rs'∧Kp W W'))
 obtain ⟨kind,dir,tq,n,s,ad,sn,kd,mo,ui,gi,li,si,am,an⟩:=x
 simp only at h1 h2 h3 h4 h5 hk
 simp only [Ac.v,Ac.cs]
 obtain ⟨V,hV,Y⟩:=S.boxes #[I kind,I dir,I tq,I n,.string s,.string ad,I sn,I kd,I mo,I ui,I gi,I li,I si,I am,I an]
 generalize hyb:W.heap.size=yb at *
 generalize hyx:yb + 1=yx at *
 have HS:=hide S
 have HY:=hide Y
 have HZ:=hide (⟨hyb,hyx⟩:_∧_)
 obtain ⟨b0,b1,b2,b3⟩:=Y.cb
 obtain ⟨x0,x1,x2,x3,x4,x5,x6,x7,x8,x9,x10,x11,x12,x13,x14⟩:=Y.cx
 clear S Y
 subst hk
 obtain ⟨q1,hq1⟩:∃ q,Mt.unbE M.es n=q:=⟨_,rfl⟩
 have HQ:=hide hq1
 clear hq1
 go_enter Tryz.func26,Tryz.ntmps26
 go_wp2_with fail
 go_region_held3 (fun w'=>w'.cell? ⟨yb,1,none⟩=some (P0 m)∧w'.cell? ⟨yb,3,none⟩=some (P0 (R + 1))∧w'.cell? ⟨yx,3,none⟩=some (I n)) (go_keep)
  (first
   | (go_at_call 99;refine (mUnbind (unhide HY).drew.s n).mono ?_;rintro e u1 ⟨rfl,G1⟩;rw [unhide HQ];have HY1:=hide ((unhide HY).drew.step (unhide G1));obtain ⟨b0,b1,b2,b3⟩:=(unhide HY1).cb;obtain ⟨x0,x1,x2,x3,x4,x5,x6,x7,x8,x9,x10,x11,x12,x13,x14⟩:=(unhide HY1).cx;clear G1)
   | (go_at_call 100;refine (rUnbind (unhide HY1).s (by omega) n).mono ?_;rintro e u2 ⟨rfl,G2⟩;obtain ⟨rs2,G2⟩:=unhide G2;rw [unhide HQ];have HY2:=hide ((unhide HY1).step G2);obtain ⟨b0,b1,b2,b3⟩:=(unhide HY2).cb;obtain ⟨x0,x1,x2,x3,x4,x5,x6,x7,x8,x9,x10,x11,x12,x13,x14⟩:=(unhide HY2).cx;clear G2))
 all_goals
  go_wp2_with fail
  go_ret
  exact ⟨rfl,hide (unhide HX _ _ _ _ (.inr (.inr (.inr (.inr (.inr (.inr (.inl ⟨rfl,rfl,rfl⟩))))))) ((unhide HY2).s.mono (B':=B + 4) (K':=K + 1) (by omega) (by omega)) (unhide HY2).kp)⟩
theorem do8 (S:Bx t m r R l0 l1 B K w W T T M M rs) (hB:B≤850) (_hK:K≤80) (x:Ac) (hx:x.Ok) (hk:∀ j:Int,1≤j→j≤7→x.kind≠j) :
  Calls Tryz.prog 26 #[.agg #[P0 t,P0 m,P0 r,P0 (R + 1)],x.v] W fun e w'=>e=.returned (.bool true)∧Hid (∃ T' M' rs',Stp x T T' M M'∧Bx t m r R l0 l1 (B + 4) (K + 1) w w' T' T' M' M' rs'∧Kp W w'):=by
 have hok:=hide hx
 obtain ⟨h1,h2,h3,h4,h5⟩:=hx
 have HX:=hide (fun (T':Tr) (M':Mt.T) (rs':List Mt.Rm) (W':World) (g:Stp x T T' M M') (s:Bx t m r R l0 l1 (B + 4) (K + 1) w W' T' T' M' M' rs') (kp:Kp W W')=>(⟨T',M',rs',g,s,kp⟩:∃ T' M' rs',Stp x T T' M M'∧Bx t m r R l0 l1 (B + 4) (K + 1) w W' T' T' M' M' rs'∧Kp W W'))
 obtain ⟨kind,dir,tq,n,s,ad,sn,kd,mo,ui,gi,li,si,am,an⟩:=x
 simp only at h1 h2 h3 h4 h5 hk
 simp only [Ac.v,Ac.cs]
 obtain ⟨V,hV,Y⟩:=S.boxes #[I kind,I dir,I tq,I n,.string s,.string ad,I sn,I kd,I mo,I ui,I gi,I li,I si,I am,I an]
 generalize hyb:W.heap.size=yb at *
 generalize hyx:yb + 1=yx at *
 have HS:=hide S
 have HY:=hide Y
 have HZ:=hide (⟨hyb,hyx⟩:_∧_)
 obtain ⟨b0,b1,b2,b3⟩:=Y.cb
 obtain ⟨x0,x1,x2,x3,x4,x5,x6,x7,x8,x9,x10,x11,x12,x13,x14⟩:=Y.cx
 clear S Y
 have k1:(kind == 1)=false:=by simpa using hk 1 (by decide) (by decide)
 have k2:(kind == 2)=false:=by simpa using hk 2 (by decide) (by decide)
 have k3:(kind == 3)=false:=by simpa using hk 3 (by decide) (by decide)
 have k4:(kind == 4)=false:=by simpa using hk 4 (by decide) (by decide)
 have k5:(kind == 5)=false:=by simpa using hk 5 (by decide) (by decide)
 have k6:(kind == 6)=false:=by simpa using hk 6 (by decide) (by decide)
 have k7:(kind == 7)=false:=by simpa using hk 7 (by decide) (by decide)
 clear hk
 obtain ⟨q1,hq1⟩:∃ q,setsE T dir=q:=⟨_,rfl⟩
 have HQ:=hide hq1
 clear hq1
 go_enter Tryz.func26,Tryz.ntmps26
 go_wp2_with fail
 go_region_held3 (fun w'=>w'.cell? ⟨yb,0,none⟩=some (P0 t)∧w'.cell? ⟨yb,2,none⟩=some (P0 r)∧w'.cell? ⟨yx,1,none⟩=some (I dir)∧w'.cell? ⟨yx,2,none⟩=some (I tq)∧w'.cell? ⟨yx,3,none⟩=some (I n)) (go_keep)
  (first
   | (go_at_call 74;refine (tSetOwner (unhide HY).drew.s h1 n tq).mono ?_;rintro e u1 ⟨rfl,G1⟩;rw [unhide HQ];have HY1:=hide ((unhide HY).drew.step (unhide G1));obtain ⟨b0,b1,b2,b3⟩:=(unhide HY1).cb;obtain ⟨x0,x1,x2,x3,x4,x5,x6,x7,x8,x9,x10,x11,x12,x13,x14⟩:=(unhide HY1).cx;clear G1)
   | (go_at_call 75;refine (dSetOwner (unhide HY1).s (by omega) h1 n tq).mono ?_;rintro e u2 ⟨rfl,G2⟩;rw [unhide HQ];have HY2:=hide ((unhide HY1).step (unhide G2));obtain ⟨b0,b1,b2,b3⟩:=(unhide HY2).cb;obtain ⟨x0,x1,x2,x3,x4,x5,x6,x7,x8,x9,x10,x11,x12,x13,x14⟩:=(unhide HY2).cx;clear G2))
 all_goals
  go_wp2_with fail
  go_ret
  exact ⟨rfl,hide (unhide HX _ _ _ _ (.inr (.inr (.inr (.inr (.inr (.inr (.inr (⟨rfl,rfl⟩)))))))) ((unhide HY2).s.mono (B':=B + 4) (K':=K + 1) (by omega) (by omega)) (unhide HY2).kp)⟩
theorem do_any (S:Bx t m r R l0 l1 B K w W T T M M rs) (hB:B≤850) (hK:K≤80) (x:Ac) (hx:x.Ok) :
  Calls Tryz.prog 26 #[.agg #[P0 t,P0 m,P0 r,P0 (R + 1)],x.v] W fun e w'=>e=.returned (.bool true)∧Hid (∃ T' M' rs',Stp x T T' M M'∧Bx t m r R l0 l1 (B + 4) (K + 1) w w' T' T' M' M' rs'∧Kp W w'):=by
 by_cases k1:x.kind=1
 ·exact do1 S hB hK x hx k1
 by_cases k2:x.kind=2
 ·exact do2 S hB hK x hx k2
 by_cases k3:x.kind=3
 ·exact do3 S hB hK x hx k3
 by_cases k4:x.kind=4
 ·exact do4 S hB hK x hx k4
 by_cases k5:x.kind=5
 ·exact do5 S hB hK x hx k5
 by_cases k6:x.kind=6
 ·exact do6 S hB hK x hx k6
 by_cases k7:x.kind=7
 ·exact do7 S hB hK x hx k7
 exact do8 S hB hK x hx fun j h1 h2 e=>by omega
end
attribute [local go_sem ↓] Go.wp_at_zero Go.wp_at_succ
def Iw (n:Int):Prop:=-9223372036854775808≤n∧n≤9223372036854775807
theorem small_any (v k:Int) (w:World) (h1:-9223372036854775808≤v) (h2:v≤9223372036854775807) (k1:0 < k) (k2:k≤100) :
  Calls Tryz.prog 106 #[I v,I k] w fun e w'=>∃ r:Nat,e=.returned (I (r:Int))∧(r:Int) < k∧w'=w:=by
 have k3:¬ k=0:=by omega
 have k4:(k == 0)=false:=by simpa using k3
 by_cases hn:v < 0
 ·have u1:(0:Int)≤-(v + 1):=by omega
  have t1:(-(v + 1)).tmod k < k:=Int.tmod_lt_of_pos _ k1
  have t2:0≤(-(v + 1)).tmod k:=Int.tmod_nonneg _ u1
  obtain ⟨r,hr⟩:∃ r:Nat,(-(v + 1)).tmod k=(r:Int):=⟨((-(v + 1)).tmod k).toNat,by omega⟩
  go_enter Tryz.func106,Tryz.ntmps106
  go_wp2
  go_ret
  exact ⟨r,rfl,by omega,rfl⟩
 ·have t1:v.tmod k < k:=Int.tmod_lt_of_pos _ k1
  have t2:0≤v.tmod k:=Int.tmod_nonneg _ (by omega)
  obtain ⟨r,hr⟩:∃ r:Nat,v.tmod k=(r:Int):=⟨(v.tmod k).toNat,by omega⟩
  go_enter Tryz.func106,Tryz.ntmps106
  go_wp2
  go_ret
  exact ⟨r,rfl,by omega,rfl⟩
end Go.Proofs.YtlngeaacjbdmhaaGreat.Bt
