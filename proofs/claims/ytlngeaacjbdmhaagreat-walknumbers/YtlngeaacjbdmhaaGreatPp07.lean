/-
 The contract of Make.
-/
import Derived.Test.YtlngeaacjbdmhaaGreatPp05
import Derived.Test.YtlngeaacjbdmhaaGreatPp06
import Derived.Deep.RegionWith
set_option maxRecDepth 100000
set_option maxHeartbeats 2000000
namespace Go.Proofs.YtlngeaacjbdmhaaGreat
open Go.RowKit Go.Maps
section
variable {lo N:Nat} {W W':World} {t:Nat} {T:Tr} {q p:Nat} {nb:Int→Nat} {ev:Int→Value} {B:Nat}
theorem dirB (h:TrI lo N W t T q p nb ev) {n:Int} (hn:(kl n).wf=true) (w:World) (hb:Below W.heap.size W w) :
  Calls Tryz.prog 116 #[P0 t,I n] w fun e w'=>e=.returned (.tuple #[(if (T.nd n).isSome=true then P0 (nb n) else .pointer none),.bool (T.dir n).isSome])∧Hid (Below W.heap.size W w'):=by
 cases hx:T.nd n with
 | none =>
  refine (dir_none (h.below hb) hn hx).mono ?_
  rintro e w' ⟨rfl,k,rfl⟩
  exact ⟨by simp [Tr.dir,hx],below_dn hb k⟩
 | some x =>
  refine (dir_some (h.below hb) hn hx).mono ?_
  rintro e w' ⟨rfl,k,rfl⟩
  refine ⟨?_,below_dn hb k⟩
  by_cases hk:x.kind=1 <;> simp [Tr.dir,hx,hk]
theorem Tr.add_old {T:Tr} {k:Int} {x:Nd} (hw:Wk B T) (hk:T.nd k=some x) (kind mode uid gid:Int) (text:ByteArray):(T.add kind mode uid gid text).nd k=some x:=by
 have:=hw.key k x hk
 simp only [Tr.add]
 rw [if_neg (by omega)]
 exact hk
theorem make_any (h:TrI lo N W t T q p nb ev) (hw:Wk B T) (hB:B≤890) {dir:Int} (hn:(kl dir).wf=true) (s:ByteArray) (a kind mode uid gid f g:Int) (text:ByteArray) (hz:text.size≤281474976710656) :
  Calls Tryz.prog 62 #[P0 t,I dir,.string s,stV a kind mode uid gid f g,.string text] W fun e w'=>e=.returned (.tuple #[I (T.makeN dir s kind text),I (T.makeE dir s kind text)])∧Tp lo N w' t (T.make dir s kind mode uid gid text)∧Tx lo W w':=by
 have hlo:=h.bd.2.2.1
 obtain ⟨W0,hW0⟩:∃ W0,W.alloc (.cells #[I a,I kind,I mode,I uid,I gid,I f,I g] 33)=W0:=⟨_,rfl⟩
 have hBW:Below W.heap.size W W0:=by rw [← hW0];exact (Below.refl _ W).alloc (Nat.le_refl _) _
 have hR:W0.heap[W.heap.size]?=some (.cells #[I a,I kind,I mode,I uid,I gid,I f,I g] 33):=by rw [← hW0];exact heap_alloc_new W _
 have X0:Tx lo W W0:=.of_below hBW hlo
 have h0:=h.below hBW
 have HTp:Hid (∀ w,Below W0.heap.size W0 w→Tp lo N w t T∧Tx lo W w):=fun w hb=>⟨⟨q,p,nb,ev,h0.below hb⟩,X0.trans (.of_below hb h0.bd.2.2.1)⟩
 have SC:Hid (∀ w,Below W0.heap.size W0 w→w.cell? ⟨W.heap.size,0,none⟩=some (I a)∧w.cell? ⟨W.heap.size,1,none⟩=some (I kind)∧w.cell? ⟨W.heap.size,2,none⟩=some (I mode)∧w.cell? ⟨W.heap.size,3,none⟩=some (I uid)∧w.cell? ⟨W.heap.size,4,none⟩=some (I gid)∧w.cell? ⟨W.heap.size,5,none⟩=some (I f)∧w.cell? ⟨W.heap.size,6,none⟩=some (I g)):=fun w hb=>by
  obtain ⟨e0,e1,e2,e3,e4,e5,e6,-⟩:=cells7 ((hb.block W.heap.size (lt_of_heap hR)).trans hR)
  exact ⟨e0,e1,e2,e3,e4,e5,e6⟩
 have HD:=hide (dirB h0 hn)
 have HR:=hide (right_any s)
 have HF:=hide (fits_any kind text)
 have hb0:=hide (Below.refl W0.heap.size W0)
 obtain ⟨R,hRR⟩:∃ R,W.heap.size=R:=⟨_,rfl⟩
 obtain ⟨ft,hft⟩:∃ ft,ft=fitsB kind text:=⟨_,rfl⟩
 obtain ⟨rt,hrt⟩:∃ rt,rt=right s:=⟨_,rfl⟩
 rw [← hft] at HF
 rw [← hrt] at HR
 cases hx:T.dir dir with
 | none =>
  have e1:T.makeE dir s kind text=1:=by simp [Tr.makeE,hx]
  have e2:T.make dir s kind mode uid gid text=T:=by simp [Tr.make,e1]
  have e3:T.makeN dir s kind text=0:=by simp [Tr.makeN,e1]
  rw [e1,e2,e3]
  rw [hx] at HD
  obtain ⟨pv,hpv⟩:∃ pv,pv=(if (T.nd dir).isSome=true then P0 (nb dir) else Value.pointer none):=⟨_,rfl⟩
  rw [← hpv] at HD
  clear h hw hx e1 e2 e3 hpv hBW hR X0 h0 hRR hft hrt
  go_enter Tryz.func62,Tryz.ntmps62
  go_wp2_with (first
    | (go_at_call 116;refine (unhide HD _ (unhide hb0)).mono ?_;rintro e w1 ⟨rfl,hb1⟩;obtain ⟨s0,s1,s2,s3,s4,s5,s6⟩:=unhide SC w1 (unhide hb1)))
  go_ret2
  exact ⟨rfl,unhide HTp _ (unhide hb1)⟩
 | some d =>
  obtain ⟨hd,hk1⟩:=Tr.dir_some.1 hx
  rw [hx,hd] at HD
  simp only [Option.isSome_some,if_true] at HD
  have HRF:Hid (∀ w,Below W0.heap.size W0 w→Calls Tryz.prog 123 #[P0 (nb dir),.string s] w fun e w'=>e=.returned (I (refusesE d s))∧Hid (Below W0.heap.size W0 w')):=fun w hb =>
   (refuses_any ((h0.below hb).hn dir d hd).1 ((h0.below hb).hn dir d hd).2 (hw.srt dir d hd) (by have:=(hw.bnd dir d hd).2.2;omega) s).mono fun e w' ⟨h1,h2⟩=>⟨h1,hb.trans (h2.mono hb.size)⟩
  have HLK:Hid (∀ w,Below W0.heap.size W0 w→Calls Tryz.prog 108 #[P0 t,P0 (nb dir)] w fun e w'=>e=.returned (I (T.links d:Nat))∧Hid (Below W0.heap.size W0 w')):=fun w hb =>
   (links_any (h0.below hb) hw (by omega) hd).mono fun e w' ⟨h1,h2⟩=>⟨h1,hb.trans (h2.mono hb.size)⟩
  have HLF:Hid (∀ w,Below W0.heap.size W0 w→Calls Tryz.prog 86 #[P0 t] w fun e w'=>e=.returned (I T.left)∧Hid (Below W0.heap.size W0 w')):=fun w hb =>
   (left_any (h0.below hb) hw (by omega)).mono fun e w' ⟨h1,k,h2⟩=>⟨h1,by rw [h2];exact below_dn hb k⟩
  have HA:Hid (∀ w,Below W0.heap.size W0 w→T.makeE dir s kind text=0→right s=true→Calls Tryz.prog 60 #[P0 t,stV a kind mode uid gid f g,.string text] w fun e w5=>e=.returned (I ((T.made:Int) + 1))∧Hid (Calls Tryz.prog 124 #[P0 t,I dir,.string s,I ((T.made:Int) + 1)] w5 fun e w6=>e=.returned (.tuple #[])∧Hid (Tp lo N w6 t (T.make dir s kind mode uid gid text)∧Tx lo W w6))):=fun w hb hE hrs=>by
   refine (add_any (h0.below hb) hw (by omega) a kind mode uid gid f g text hz).mono ?_
   rintro e w5 ⟨h1,b,T5,X5⟩
   refine ⟨h1,?_⟩
   have hd5:=Tr.add_old hw hd kind mode uid gid text
   have hn5:(T.add kind mode uid gid text).nd ((T.made:Int) + 1)=some ⟨kind,bits .and .i64 mode 4095,uid,gid,0,0,0,[],if kind=2 then (T.pool.fs.length:Int) + 1 else 0,text⟩:=by simp [Tr.add]
   have hkey:=hw.key dir d hd
   refine (give_any T5 hn (wf_of (by have:=hw.made;omega)) hd5 hn5 (by omega) (hw.srt dir d hd) (by have:=(hw.bnd dir d hd).2.2;omega) (by simp) s (by have:=right_size hrs;omega)).mono ?_
   rintro e w6 ⟨h6,ev',T6,X6⟩
   have hmm:T.make dir s kind mode uid gid text=(T.add kind mode uid gid text).give dir s ((T.made:Int) + 1):=by rw [Tr.make,if_pos hE]
   rw [hmm]
   exact ⟨h6,⟨q,p,_,ev',T6⟩,X0.trans ((Tx.of_below hb h0.bd.2.2.1).trans (X5.trans X6))⟩
  have hmE:T.makeE dir s kind text=if right s=true∧fitsB kind text=true then (if refusesE d s≠0 then refusesE d s else if kind=1∧T.links d=16 then 44 else if T.left=0 then 43 else 0) else 1:=by simp [Tr.makeE,hx]
  have hmk:T.makeE dir s kind text≠0→T.make dir s kind mode uid gid text=T∧T.makeN dir s kind text=0:=fun hE=>⟨by rw [Tr.make,if_neg hE],by rw [Tr.makeN,if_neg hE]⟩
  have hmk0:T.makeE dir s kind text=0→T.makeN dir s kind text=(T.made:Int) + 1:=fun hE=>by rw [Tr.makeN,if_pos hE]
  obtain ⟨rf,hrf⟩:∃ rf,rf=refusesE d s:=⟨_,rfl⟩
  obtain ⟨lk,hlk⟩:∃ lk,lk=T.links d:=⟨_,rfl⟩
  obtain ⟨lf,hlf⟩:∃ lf,lf=T.left:=⟨_,rfl⟩
  obtain ⟨E,hE⟩:∃ E,E=T.makeE dir s kind text:=⟨_,rfl⟩
  obtain ⟨b,hbb⟩:∃ b,b=nb dir:=⟨_,rfl⟩
  obtain ⟨M,hMM⟩:∃ M:Int,M=(T.made:Int) + 1:=⟨_,rfl⟩
  rw [← hrf] at HRF hmE
  rw [← hlk] at HLK hmE
  rw [← hlf] at HLF hmE
  rw [← hE] at hmE hmk hmk0 HA ⊢
  rw [← hrt] at hmE HA
  rw [← hft] at hmE
  rw [← hbb] at HD HRF HLK
  rw [← hMM] at HA hmk0
  clear h hw hx hd hk1 hBW hR X0 h0 hft hrt hrf hlk hlf hE hbb hMM hRR
  by_cases h1:rt=true
  ·subst h1
   by_cases h2:ft=true
   ·subst h2
    simp only [and_self,if_true] at hmE
    by_cases h3:rf=0
    ·subst h3
     simp only [ne_eq,not_true_eq_false,if_false] at hmE
     by_cases h4:kind=1
     ·subst h4
      by_cases h5:lk=16
      ·subst h5
       simp at hmE
       subst hmE
       obtain ⟨e2,e3⟩:=hmk (by decide)
       rw [e2,e3]
       clear hmk hmk0 HA e2 e3
       go_enter Tryz.func62,Tryz.ntmps62
       go_wp2_with (first
         | (go_at_call 116;refine (unhide HD _ (unhide hb0)).mono ?_;rintro e w1 ⟨rfl,hb1⟩;obtain ⟨s0,s1,s2,s3,s4,s5,s6⟩:=unhide SC w1 (unhide hb1))
         | (go_at_call 121;refine (unhide HR _).mono ?_;rintro e w' ⟨rfl,rfl⟩)
         | (go_at_call 122;refine (unhide HF _).mono ?_;rintro e w' ⟨rfl,rfl⟩)
         | (go_at_call 123;refine (unhide HRF _ (unhide hb1)).mono ?_;rintro e w2 ⟨rfl,hb2⟩;obtain ⟨t0,t1,t2,t3,t4,t5,t6⟩:=unhide SC w2 (unhide hb2))
         | (go_at_call 108;refine (unhide HLK _ (unhide hb2)).mono ?_;rintro e w3 ⟨rfl,hb3⟩;obtain ⟨u0,u1,u2,u3,u4,u5,u6⟩:=unhide SC w3 (unhide hb3)))
       go_ret2
       exact ⟨rfl,unhide HTp _ (unhide hb3)⟩
      ·have h5i:¬ ((lk:Int)=16):=by omega
       by_cases h6:lf=0
       ·subst h6
        simp [h5] at hmE
        subst hmE
        obtain ⟨e2,e3⟩:=hmk (by decide)
        rw [e2,e3]
        clear hmk hmk0 HA e2 e3
        go_enter Tryz.func62,Tryz.ntmps62
        go_wp2_with (first
          | (go_at_call 116;refine (unhide HD _ (unhide hb0)).mono ?_;rintro e w1 ⟨rfl,hb1⟩;obtain ⟨s0,s1,s2,s3,s4,s5,s6⟩:=unhide SC w1 (unhide hb1))
          | (go_at_call 121;refine (unhide HR _).mono ?_;rintro e w' ⟨rfl,rfl⟩)
          | (go_at_call 122;refine (unhide HF _).mono ?_;rintro e w' ⟨rfl,rfl⟩)
          | (go_at_call 123;refine (unhide HRF _ (unhide hb1)).mono ?_;rintro e w2 ⟨rfl,hb2⟩;obtain ⟨t0,t1,t2,t3,t4,t5,t6⟩:=unhide SC w2 (unhide hb2))
          | (go_at_call 108;refine (unhide HLK _ (unhide hb2)).mono ?_;rintro e w3 ⟨rfl,hb3⟩;obtain ⟨u0,u1,u2,u3,u4,u5,u6⟩:=unhide SC w3 (unhide hb3))
          | (go_at_call 86;refine (unhide HLF _ (unhide hb3)).mono ?_;rintro e w4 ⟨rfl,hb4⟩;obtain ⟨x0,x1,x2,x3,x4,x5,x6⟩:=unhide SC w4 (unhide hb4)))
        go_ret2
        exact ⟨rfl,unhide HTp _ (unhide hb4)⟩
       ·simp [h5,h6] at hmE
        subst hmE
        rw [hmk0 rfl]
        have HA2:=hide (fun w hb=>unhide HA w hb rfl rfl)
        clear hmk hmk0 HA
        go_enter Tryz.func62,Tryz.ntmps62
        go_wp2_with (first
          | (go_at_call 116;refine (unhide HD _ (unhide hb0)).mono ?_;rintro e w1 ⟨rfl,hb1⟩;obtain ⟨s0,s1,s2,s3,s4,s5,s6⟩:=unhide SC w1 (unhide hb1))
          | (go_at_call 121;refine (unhide HR _).mono ?_;rintro e w' ⟨rfl,rfl⟩)
          | (go_at_call 122;refine (unhide HF _).mono ?_;rintro e w' ⟨rfl,rfl⟩)
          | (go_at_call 123;refine (unhide HRF _ (unhide hb1)).mono ?_;rintro e w2 ⟨rfl,hb2⟩;obtain ⟨t0,t1,t2,t3,t4,t5,t6⟩:=unhide SC w2 (unhide hb2))
          | (go_at_call 108;refine (unhide HLK _ (unhide hb2)).mono ?_;rintro e w3 ⟨rfl,hb3⟩;obtain ⟨u0,u1,u2,u3,u4,u5,u6⟩:=unhide SC w3 (unhide hb3))
          | (go_at_call 86;refine (unhide HLF _ (unhide hb3)).mono ?_;rintro e w4 ⟨rfl,hb4⟩;obtain ⟨x0,x1,x2,x3,x4,x5,x6⟩:=unhide SC w4 (unhide hb4))
          | (go_at_call 60;refine (unhide HA2 _ (unhide hb4)).mono ?_;rintro e w5 ⟨rfl,HG⟩)
          | (go_at_call 124;refine (unhide HG).mono ?_;rintro e w6 ⟨rfl,FF⟩))
        go_ret2
        exact ⟨rfl,unhide FF⟩
     ·by_cases h6:lf=0
      ·subst h6
       simp [h4] at hmE
       subst hmE
       obtain ⟨e2,e3⟩:=hmk (by decide)
       rw [e2,e3]
       clear hmk hmk0 HA e2 e3
       go_enter Tryz.func62,Tryz.ntmps62
       go_wp2_with (first
         | (go_at_call 116;refine (unhide HD _ (unhide hb0)).mono ?_;rintro e w1 ⟨rfl,hb1⟩;obtain ⟨s0,s1,s2,s3,s4,s5,s6⟩:=unhide SC w1 (unhide hb1))
         | (go_at_call 121;refine (unhide HR _).mono ?_;rintro e w' ⟨rfl,rfl⟩)
         | (go_at_call 122;refine (unhide HF _).mono ?_;rintro e w' ⟨rfl,rfl⟩)
         | (go_at_call 123;refine (unhide HRF _ (unhide hb1)).mono ?_;rintro e w2 ⟨rfl,hb2⟩;obtain ⟨t0,t1,t2,t3,t4,t5,t6⟩:=unhide SC w2 (unhide hb2))
         | (go_at_call 86;refine (unhide HLF _ (unhide hb2)).mono ?_;rintro e w4 ⟨rfl,hb4⟩;obtain ⟨x0,x1,x2,x3,x4,x5,x6⟩:=unhide SC w4 (unhide hb4)))
       go_ret2
       exact ⟨rfl,unhide HTp _ (unhide hb4)⟩
      ·simp [h4,h6] at hmE
       subst hmE
       rw [hmk0 rfl]
       have HA2:=hide (fun w hb=>unhide HA w hb rfl rfl)
       clear hmk hmk0 HA
       go_enter Tryz.func62,Tryz.ntmps62
       go_wp2_with (first
         | (go_at_call 116;refine (unhide HD _ (unhide hb0)).mono ?_;rintro e w1 ⟨rfl,hb1⟩;obtain ⟨s0,s1,s2,s3,s4,s5,s6⟩:=unhide SC w1 (unhide hb1))
         | (go_at_call 121;refine (unhide HR _).mono ?_;rintro e w' ⟨rfl,rfl⟩)
         | (go_at_call 122;refine (unhide HF _).mono ?_;rintro e w' ⟨rfl,rfl⟩)
         | (go_at_call 123;refine (unhide HRF _ (unhide hb1)).mono ?_;rintro e w2 ⟨rfl,hb2⟩;obtain ⟨t0,t1,t2,t3,t4,t5,t6⟩:=unhide SC w2 (unhide hb2))
         | (go_at_call 86;refine (unhide HLF _ (unhide hb2)).mono ?_;rintro e w4 ⟨rfl,hb4⟩;obtain ⟨x0,x1,x2,x3,x4,x5,x6⟩:=unhide SC w4 (unhide hb4))
         | (go_at_call 60;refine (unhide HA2 _ (unhide hb4)).mono ?_;rintro e w5 ⟨rfl,HG⟩)
         | (go_at_call 124;refine (unhide HG).mono ?_;rintro e w6 ⟨rfl,FF⟩))
       go_ret2
       exact ⟨rfl,unhide FF⟩
    ·simp only [ne_eq,h3,not_false_eq_true,if_true] at hmE
     subst hmE
     obtain ⟨e2,e3⟩:=hmk h3
     rw [e2,e3]
     clear hmk hmk0 HA e2 e3
     go_enter Tryz.func62,Tryz.ntmps62
     go_wp2_with (first
       | (go_at_call 116;refine (unhide HD _ (unhide hb0)).mono ?_;rintro e w1 ⟨rfl,hb1⟩;obtain ⟨s0,s1,s2,s3,s4,s5,s6⟩:=unhide SC w1 (unhide hb1))
       | (go_at_call 121;refine (unhide HR _).mono ?_;rintro e w' ⟨rfl,rfl⟩)
       | (go_at_call 122;refine (unhide HF _).mono ?_;rintro e w' ⟨rfl,rfl⟩)
       | (go_at_call 123;refine (unhide HRF _ (unhide hb1)).mono ?_;rintro e w2 ⟨rfl,hb2⟩;obtain ⟨t0,t1,t2,t3,t4,t5,t6⟩:=unhide SC w2 (unhide hb2)))
     go_ret2
     exact ⟨rfl,unhide HTp _ (unhide hb2)⟩
   ·replace h2:ft=false:=by simpa using h2
    subst h2
    simp at hmE
    subst hmE
    obtain ⟨e2,e3⟩:=hmk (by decide)
    rw [e2,e3]
    clear hmk hmk0 HA e2 e3
    go_enter Tryz.func62,Tryz.ntmps62
    go_wp2_with (first
      | (go_at_call 116;refine (unhide HD _ (unhide hb0)).mono ?_;rintro e w1 ⟨rfl,hb1⟩;obtain ⟨s0,s1,s2,s3,s4,s5,s6⟩:=unhide SC w1 (unhide hb1))
      | (go_at_call 121;refine (unhide HR _).mono ?_;rintro e w' ⟨rfl,rfl⟩)
      | (go_at_call 122;refine (unhide HF _).mono ?_;rintro e w' ⟨rfl,rfl⟩))
    go_ret2
    exact ⟨rfl,unhide HTp _ (unhide hb1)⟩
  ·replace h1:rt=false:=by simpa using h1
   subst h1
   simp at hmE
   subst hmE
   obtain ⟨e2,e3⟩:=hmk (by decide)
   rw [e2,e3]
   clear hmk hmk0 HA e2 e3
   go_enter Tryz.func62,Tryz.ntmps62
   go_wp2_with (first
     | (go_at_call 116;refine (unhide HD _ (unhide hb0)).mono ?_;rintro e w1 ⟨rfl,hb1⟩;obtain ⟨s0,s1,s2,s3,s4,s5,s6⟩:=unhide SC w1 (unhide hb1))
     | (go_at_call 121;refine (unhide HR _).mono ?_;rintro e w' ⟨rfl,rfl⟩))
   go_ret2
   exact ⟨rfl,unhide HTp _ (unhide hb1)⟩
end
open Go.RowKit Go.Maps
section
variable {lo N:Nat} {W W':World} {t:Nat} {T:Tr} {q p:Nat} {nb:Int→Nat} {ev:Int→Value} {B:Nat}
theorem TrI.gone (h:TrI lo N W t T q p nb ev) {n:Int} (hm:Mp W' q (T.made + 1) (upd (fun k=>if (T.nd k).isSome=true then some (P0 (nb k)) else none) n none)) (F:Fr [q] W W'):TrI lo N W' t (T.set n none) q p nb ev∧Tx lo W W':=by
 have kc:∀ (b:Nat) (cs:Array Value) (ty:TypeId) (f:Nat × Nat),W.heap[b]?=some (.cells cs ty f)→W'.heap[b]?=W.heap[b]?:=fun b cs ty f e=>F.blk b (lt_of_heap e) (by simp only [List.mem_cons,List.not_mem_nil,or_false];exact fun e2=>map_blk h.hm (by rw [← e2];exact e))
 have hold:∀ k x,(T.set n none).nd k=some x→T.nd k=some x:=fun k x hk=>by
  by_cases e:k=n
  ·subst e;rw [Tr.set_same] at hk;cases hk
  ·rwa [Tr.set_other _ _ e] at hk
 refine ⟨⟨(kc _ _ _ _ h.ht).trans h.ht,hm.congr fun k=>?_,fun k x hk=>⟨(kc _ _ _ _ (h.hn k x (hold k x hk)).1).trans (h.hn k x (hold k x hk)).1,(h.hn k x (hold k x hk)).2.same fun g hg=>?_⟩,fun j k x y hj hk=>h.dn j k x y (hold j x hj) (hold k y hk),?_,⟨h.bd.1,h.bd.2.1,Nat.le_trans h.bd.2.2.1 F.size,fun k x hk=>h.bd.2.2.2 k x (hold k x hk)⟩⟩,⟨F.base h.bd.2.2.1 (by simp;exact h.bd.2.1),fun b cs ty f e _ _ _ _ _=>(kc b cs ty f e).trans e⟩⟩
 ·simp only [upd]
  by_cases e:k=n
  ·subst e;simp [Tr.set]
  ·simp [Tr.set,e]
 ·obtain ⟨_,cur,hc⟩:=(h.hn k x (hold k x hk)).2.blk hg
  exact kc _ _ _ _ hc
 ·exact h.pl.keepK F.size (fun b es k e hK=>F.blk b (lt_of_heap e) (by simpa using hK)) fun b cs ty f e _=>kc b cs ty f e
theorem leave_any (h:TrI lo N W t T q p nb ev) (hB:B≤900) {n:Int} {x:Nd} (hn:(kl n).wf=true) (hx:T.nd n=some x) (hf:0≤x.file∧x.file≤B) :
  Calls Tryz.prog 134 #[P0 t,I n] W fun e w'=>e=.returned (.tuple #[])∧TrI lo N w' t (T.leave n) q p nb ev∧Tx lo W w':=by
 obtain ⟨c0,c1,c2,c3,cf⟩:=h.cells
 have hl:=h.look hn
 rw [hx] at hl
 simp only [Option.isSome_some,if_true] at hl
 obtain ⟨-,-,-,-,d4,d5,-,-,d8,-,df⟩:=ndcells (h.hn n x hx).1
 have hlo:=h.bd.2.2.1
 by_cases hk:0 < x.names ∨ 0 < x.holds
 ·have e:T.leave n=T:=by simp [Tr.leave,hx,hk]
  rw [e]
  have HH:=hide h
  obtain ⟨m,hm⟩:∃ m:Int,m=(x.names:Int):=⟨_,rfl⟩
  obtain ⟨k,hk2⟩:∃ k:Int,k=(x.holds:Int):=⟨_,rfl⟩
  rw [← hm] at d4
  rw [← hk2] at d5
  by_cases hk1:0 < x.names
  ·have g1:(0:Int) < m:=by omega
   clear h hx e hm hk2 hk hk1 hf hB c0 c1 c3
   go_enter Tryz.func134,Tryz.ntmps134
   go_wp2_with fail
   refine bodyPost_ret (results_none rfl _ _ _) rfl ?_
   exact ⟨rfl,unhide HH,.refl hlo⟩
  ·have g1:m=0:=by omega
   have g2:(0:Int) < k:=by omega
   subst g1
   clear h hx e hk hk1 hk2 hf hB c0 c1 c3
   go_enter Tryz.func134,Tryz.ntmps134
   go_wp2_with fail
   refine bodyPost_ret (results_none rfl _ _ _) rfl ?_
   exact ⟨rfl,unhide HH,.refl hlo⟩
 ·have e:T.leave n=({ T with pool:=dropS T.pool x.file }:Tr).set n none:=by simp [Tr.leave,hx,hk,Tr.set]
  rw [e]
  have g1:(x.names:Int)=0:=by omega
  have g2:(x.holds:Int)=0:=by omega
  rw [g1] at d4
  rw [g2] at d5
  have hd:=h.below (below_drew (Below.refl _ W))
  have HD:=drop_any hd.pl (f:=x.file) (wf_of (by omega))
  have HDD:Hid (Calls Tryz.prog 215 #[P0 p,I x.file] W.drew fun e w'=>e=.returned (I (dropE T.pool x.file))∧(w'.cell? ⟨t,2,none⟩=some (.map (some q)))∧∃ V,(∀ ty,(Builtin.delete_ #[123,3] ty #[.map (some q),I n]).run Tryz.prog w'=.ok (.tuple #[]) V)∧Hid (TrI lo N V t (({ T with pool:=dropS T.pool x.file }:Tr).set n none) q p nb ev∧Tx lo W V)):=by
   refine HD.mono ?_
   rintro e1 w1 ⟨h1,P1,nx⟩
   obtain ⟨T1,X1⟩:=hd.poolT P1 nx
   replace X1:=(Tx.of_below (below_drew (Below.refl _ W)) hlo).trans X1
   obtain ⟨V,hrun,M2,F2,_⟩:=T1.hm.drop htN hn 0
   refine ⟨h1,T1.cells.2.2.1,V,fun ty=>by rw [← hrun];rfl,?_⟩
   obtain ⟨T2,X2⟩:=T1.gone M2 F2
   exact ⟨T2,X1.trans X2⟩
  clear h hx e hk HD g1 g2 hf hB c0 c1 hd
  go_enter Tryz.func134,Tryz.ntmps134
  go_wp2_with fail
  go_region_with (go_at_call 215;refine (unhide HDD).mono ?_;rintro e w1 ⟨rfl,y2,V,hrun,FF⟩)
  all_goals
   go_wp2_with fail
   go_end0
   exact ⟨rfl,unhide FF⟩
theorem hold_any (h:TrI lo N W t T q p nb ev) {n:Int} (hn:(kl n).wf=true) (hb:∀ x,T.nd n=some x→x.holds < 900) :
  Calls Tryz.prog 63 #[P0 t,I n] W fun e w'=>e=.returned (I (T.holdE n))∧∃ ev',TrI lo N w' t (T.hold n) q p nb ev'∧Tx lo W w':=by
 obtain ⟨c0,c1,c2,c3,cf⟩:=h.cells
 have hl:=h.look_ok hn
 have hlo:=h.bd.2.2.1
 have HH:=hide h
 unfold Tr.holdE Tr.hold
 cases hx:T.nd n with
 | none =>
  rw [hx] at hl
  simp only [Option.isSome_none,Bool.false_eq_true,if_false] at hl
  clear h hx
  go_enter Tryz.func63,Tryz.ntmps63
  go_wp2_with fail
  go_ret
  exact ⟨rfl,ev,unhide HH,.refl hlo⟩
 | some x =>
  dsimp only
  rw [hx] at hl
  simp only [Option.isSome_some,if_true] at hl
  have hbx:=(h.hn n x hx).1
  obtain ⟨-,-,-,-,-,d5,-,-,-,-,df⟩:=ndcells hbx
  have hlt:=hb x hx
  have FIN:Hid (∃ ev',TrI lo N (W.setCell ⟨nb n,5,none⟩ (I ((x.holds:Int) + 1))) t (T.set n (some { x with holds:=x.holds + 1 })) q p nb ev'∧Tx lo W (W.setCell ⟨nb n,5,none⟩ (I ((x.holds:Int) + 1)))):=by
   obtain ⟨T6,X6⟩:=h.turn (y:={ x with holds:=x.holds + 1 }) (v:=ev n) hx (W':=W.setCell ⟨nb n,5,none⟩ (I ((x.holds:Int) + 1))) ((Fn.refl _ _ _).set 5 _) (by rw [heap_set hbx];simp [ndC]) ((h.hn n x hx).2.same fun g hg=>Below.heap_setCell _ _ _ _ (fun e=>by obtain ⟨_,cur,hc⟩:=(h.hn n x hx).2.blk hg;rw [show g=nb n from e,hbx] at hc;simp [ndC] at hc)) (.inl rfl)
   exact ⟨_,T6,X6⟩
  obtain ⟨m,hm⟩:∃ m,m=x.holds:=⟨_,rfl⟩
  rw [← hm] at d5 hlt FIN
  have hm1:(m:Int) < 900:=by omega
  rw [← hm]
  clear h hx hbx hb hm
  go_enter Tryz.func63,Tryz.ntmps63
  go_wp2_with fail
  go_ret
  exact ⟨rfl,unhide FIN⟩
end
open Go.RowKit Go.Maps
section
variable {lo N:Nat} {W W':World} {t:Nat} {T:Tr} {q p:Nat} {nb:Int→Nat} {ev:Int→Value} {B:Nat}
theorem take_any (h:TrI lo N W t T q p nb ev) (hB:B≤900) {dir n:Int} {d x:Nd} (hwn:(kl n).wf=true) (hd:T.nd dir=some d) (hx:T.nd n=some x) (hdn:dir≠n) (hs:Srt d.ins) (hl:d.ins.length < 900) (hnm:0 < x.names∧x.names < 900) (hf:0≤x.file∧x.file≤B) (s:ByteArray) (hg:getE d.ins s=some n) :
  Calls Tryz.prog 125 #[P0 t,P0 (nb dir),.string s] W fun e w'=>e=.returned (.tuple #[])∧∃ ev',TrI lo N w' t (T.take dir s) q p nb ev'∧Tx lo W w':=by
 obtain ⟨c0,c1,c2,c3,cf⟩:=h.cells
 obtain ⟨hb,hr⟩:=h.hn dir d hd
 have hne:=(h.dn dir n d x hd hx hdn).1
 obtain ⟨b,hbe⟩:∃ b,b=nb dir:=⟨_,rfl⟩
 obtain ⟨bx,hbxe⟩:∃ bx,bx=nb n:=⟨_,rfl⟩
 rw [← hbe] at hb hne ⊢
 rw [← hbxe] at hne
 obtain ⟨P,hP⟩:∃ P,P=pos d.ins s:=⟨_,rfl⟩
 have hat:=(hs.at_pos s).2 n hg
 rw [← hP] at hat
 obtain ⟨L,hL⟩:∃ L,L=d.ins.length:=⟨_,rfl⟩
 have hPL:P < L:=by rw [hL];exact (List.getElem?_eq_some_iff.1 hat).1
 have hlo:=h.bd.2.2.1
 have hbl:=lt_of_heap hb
 have HP:=hide (place_any hb hr hs (by omega) s)
 rw [← hP,hg] at HP
 obtain ⟨g,cap,hv,hcap,hcm,hgl,hgW,hcells⟩:∃ g cap,ev dir=.slice (some ⟨g,0,none⟩) L cap∧L≤cap∧cap≤maxLen∧lo≤g∧g < W.heap.size∧∀ (i:Nat) (a:ByteArray) (n:Int),d.ins[i]?=some (a,n)→W.cell? ⟨g,i * 2,none⟩=some (.string a)∧W.cell? ⟨g,i * 2 + 1,none⟩=some (.int .i64 n):=by
  rcases hr.open' with ⟨_,hz⟩ | ⟨g,cap,h1,h2,h3,h4,h5,h6⟩
  ·rw [hz] at hL;simp at hL;omega
  ·exact ⟨g,cap,by rw [hL];exact h1,by rw [hL];exact h2,h3,h4,h5,h6⟩
 have hmx:cap≤9223372036854775807:=by unfold maxLen at hcm;omega
 have HB7:Hid (∀ w2,Below W.heap.size W w2→w2.cell? ⟨b,7,none⟩=some (.slice (some ⟨g,0,none⟩) L cap)∧(∀ i,w2.frozen? ⟨b,i,none⟩=false)∧w2.cell? ⟨g,P * 2,none⟩=some (.string s)∧w2.cell? ⟨g,P * 2 + 1,none⟩=some (.int .i64 n)):=fun w2 hB2=>by
  obtain ⟨-,-,-,-,-,-,-,d7,-,-,df⟩:=ndcells ((hB2.block _ hbl).trans hb)
  obtain ⟨k1,k2⟩:=hcells P s n hat
  have hgw:=hB2.block g hgW
  exact ⟨by rw [d7,hv],df,(cell_same hgw _).trans k1,(cell_same hgw _).trans k2⟩
 have HI:Hid (∀ w2,Below W.heap.size W w2→Calls Tryz.prog 213 #[.slice (some ⟨g,0,none⟩) L cap,.int .i64 (P:Int),.int .i64 ((P:Int) + 1)] w2 fun e w3=>e=.returned (.slice (some ⟨g,0,none⟩) (L - 1) cap)∧(w3.cell? ⟨b,7,none⟩=some (.slice (some ⟨g,0,none⟩) L cap)∧∀ i,w3.frozen? ⟨b,i,none⟩=false) ∧
   ∃ V5,V5=w3.setCell ⟨b,7,none⟩ (.slice (some ⟨g,0,none⟩) (L - 1) cap)∧(V5.cell? ⟨t,2,none⟩=some (.map (some q))∧(Instr.lookup 123 (.map (some q)) (I n) false).run Tryz.prog V5=.ok (P0 bx) V5∧V5.cell? ⟨bx,4,none⟩=some (I (x.names:Int))∧∀ i,V5.frozen? ⟨bx,i,none⟩=false) ∧
    Hid (Calls Tryz.prog 134 #[P0 t,I n] (V5.setCell ⟨bx,4,none⟩ (I ((x.names:Int) - 1))) fun e w'=>e=.returned (.tuple #[])∧∃ ev',TrI lo N w' t (T.take dir s) q p nb ev'∧Tx lo W w')):=fun w2 hB2=>by
  have hown2:Ro lo w2 (ev dir) d.ins:=hr.below hB2
  have hI:=delete_any lo g L cap P d.ins w2 hL.symm (by rw [← hv,hL];exact hown2) hPL
  refine hI.mono ?_
  rintro e w3 ⟨rfl,own3,del⟩
  have hbb:w2.heap[b]?=some (.cells (ndC d (ev dir)) 129):=(hB2.block _ hbl).trans hb
  have hgb:b≠g:=fun e=>by
   obtain ⟨_,cur,hc⟩:=hr.blk (g:=g) (by rw [hv];rfl)
   rw [← e,hb] at hc
   simp [ndC] at hc
  have h3b:w3.heap[b]?=some (.cells (ndC d (ev dir)) 129):=(del.blk b hgb).trans hbb
  have FN:Fn (nb dir) (ev dir).ownBlock W (w3.setCell ⟨nb dir,7,none⟩ (.slice (some ⟨g,0,none⟩) (L - 1) cap)):=by
   refine Fn.set ?_ 7 _
   have hB3:Fn (nb dir) (ev dir).ownBlock W w2:=Fn.of_below hB2
   exact ⟨del.os.trans hB3.os,del.tape.trans hB3.tape,del.output.trans hB3.output,by rw [del.size];exact hB3.size,fun k hk h1 h2=>(del.blk k (fun e=>h2 (by rw [e,hv];rfl))).trans (hB3.blk k hk h1 h2)⟩
  have hy:(w3.setCell ⟨nb dir,7,none⟩ (.slice (some ⟨g,0,none⟩) (L - 1) cap)).heap[nb dir]?=some (.cells (ndC { d with ins:=delE d.ins s } (.slice (some ⟨g,0,none⟩) (L - 1) cap)) 129):=by
   rw [← hbe,heap_set h3b];rfl
  have hdl:(delE d.ins s).length=L - 1:=by have:=delE_length hs hg;omega
  have hr5:Ro lo (w3.setCell ⟨nb dir,7,none⟩ (.slice (some ⟨g,0,none⟩) (L - 1) cap)) (.slice (some ⟨g,0,none⟩) (L - 1) cap) (delE d.ins s):=by
   have h1:Ro lo w3 (.slice (some ⟨g,0,none⟩) (L - 1) cap) (delE d.ins s):=by
    show World.ownsRow _ _ _ _ _ _ _
    rw [hdl]
    have e:delE d.ins s=d.ins.take P ++ d.ins.drop (P + 1):=by rw [hP];rfl
    rw [e]
    exact own3
   refine h1.same fun g' hg'=>Below.heap_setCell _ _ _ _ fun e=>?_
   obtain ⟨_,cur,hc⟩:=h1.blk hg'
   rw [show g'=b from e.trans hbe.symm,h3b] at hc
   simp [ndC] at hc
  obtain ⟨T5,X5⟩:=h.turn hd FN hy hr5 (.inl (by rw [hv];rfl))
  have hx5:(T.set dir (some { d with ins:=delE d.ins s })).nd n=some x:=by rw [Tr.set_other _ _ (Ne.symm hdn)];exact hx
  rw [← hbe] at T5 X5
  obtain ⟨hbx5,hrx5⟩:=T5.hn n x hx5
  rw [← hbxe] at hbx5
  obtain ⟨-,-,-,-,y4,-,-,-,-,-,yf⟩:=ndcells hbx5
  obtain ⟨-,-,-,-,-,-,-,z7,-,-,zf⟩:=ndcells h3b
  have hlk:=T5.look hwn
  rw [hx5] at hlk
  simp only [Option.isSome_some,if_true] at hlk
  rw [← hbxe] at hlk
  refine ⟨rfl,⟨by rw [z7,hv],zf⟩,_,rfl,⟨T5.cells.2.2.1,hlk,y4,yf⟩,?_⟩
  obtain ⟨T6,X6⟩:=T5.turn (y:={ x with names:=x.names - 1 }) (v:=if n=dir then (.slice (some ⟨g,0,none⟩) (L - 1) cap) else ev n) hx5 (W':=(w3.setCell ⟨b,7,none⟩ (.slice (some ⟨g,0,none⟩) (L - 1) cap)).setCell ⟨nb n,4,none⟩ (I ((x.names:Int) - 1))) ((Fn.refl _ _ _).set 4 _) (by rw [← hbxe,heap_set hbx5];simp [ndC];omega) (hrx5.same fun g hg=>Below.heap_setCell _ _ _ _ (fun e=>by obtain ⟨_,cur,hc⟩:=hrx5.blk hg;rw [show g=bx from e.trans hbxe.symm,hbx5] at hc;simp [ndC] at hc)) (.inl rfl)
  rw [← hbxe] at T6 X6
  refine (leave_any (B:=B) T6 hB hwn (Tr.set_same _ _ _) hf).mono ?_
  rintro e w' ⟨h1,h2,h3⟩
  have e5:T.take dir s=(((T.set dir (some { d with ins:=delE d.ins s })).set n (some { x with names:=x.names - 1 })).leave n):=by
   simp only [Tr.take,hd,hg]
   simp only [Tr.less,hx5]
  rw [e5]
  exact ⟨h1,_,h2,X5.trans (X6.trans h3)⟩
 obtain ⟨m,hm⟩:∃ m,m=x.names:=⟨_,rfl⟩
 rw [← hm] at HI
 have hm1:(m:Int) < 900:=by omega
 have hm0:(0:Int) < (m:Int):=by omega
 have q0:(0:Int)≤(P:Int):=by omega
 have q1:(P:Int) < (L:Int):=by omega
 have q2:(P:Int) < 900:=by omega
 have HPLL:=hide hPL
 clear h hd hx hb hr hP hm hbe hbxe hs hl hnm hf hg hat hL hv hcells hcm hB hgl c0 c1 c2 c3 cf hcap
 go_enter Tryz.func125,Tryz.ntmps125
 go_wp2_with (go_at_call 207;refine (unhide HP).mono ?_;rintro e V ⟨rfl,hBV⟩;obtain ⟨v7,vf,w1,w2⟩:=unhide HB7 V hBV;have HBV:=hide hBV;clear hBV)
 refine (unhide HI V (unhide HBV)).mono ?_
 rintro e w3 ⟨rfl,⟨x7,xf⟩,V5,hV5,⟨z2,zl,z4,zf⟩,FF⟩
 replace hV5:=hV5.symm
 go_wp2_with (go_at_call 134;refine (unhide FF).mono ?_;rintro e w1 ⟨rfl,GG⟩;have HG:=hide GG;clear GG)
 go_end0
 exact ⟨rfl,unhide HG⟩
end
open Go.RowKit Go.Maps
section
variable {lo N:Nat} {W W':World} {t:Nat} {T:Tr} {q p:Nat} {nb:Int→Nat} {ev:Int→Value} {B:Nat}
theorem findB (h:TrI lo N W t T q p nb ev) (hw:Wk B T) (hB:B≤890) {n:Int} {d:Nd} (hd:T.nd n=some d) (s:ByteArray) (w:World) (hb:Below W.heap.size W w) :
  Calls Tryz.prog 117 #[P0 (nb n),.string s] w fun e w'=>e=.returned (.tuple #[I ((getE d.ins s).getD 0),.bool (getE d.ins s).isSome])∧Hid (Below W.heap.size W w') :=
 (find_any ((h.below hb).hn n d hd).1 ((h.below hb).hn n d hd).2 (hw.srt n d hd) (by have:=(hw.bnd n d hd).2.2;omega) s).mono fun _ _ ⟨h1,h2⟩=>⟨h1,hb.trans (h2.mono hb.size)⟩
theorem Wk.at (hw:Wk B T) {n:Int} {d:Nd} (hd:T.nd n=some d) {s:ByteArray} {m:Int} (hm:getE d.ins s=some m):∃ y,T.nd m=some y∧0 < y.names:=by
 obtain ⟨y,hy⟩:=hw.ent hd (getE_some hm)
 refine ⟨y,hy,?_⟩
 have h1:=cntE_pos hw hd (getE_some hm)
 have h2:=hw.num m y hy
 simp only at h1
 omega
theorem part_any (h:TrI lo N W t T q p nb ev) (hw:Wk B T) (hB:B≤890) {dir:Int} (hn:(kl dir).wf=true) (s:ByteArray) (hself:∀ d,T.nd dir=some d→getE d.ins s≠some dir) :
  Calls Tryz.prog 64 #[P0 t,I dir,.string s] W fun e w'=>e=.returned (I (T.partE dir s))∧Tp lo N w' t (T.part dir s)∧Tx lo W w':=by
 have hlo:=h.bd.2.2.1
 have HTp:Hid (∀ w,Below W.heap.size W w→Tp lo N w t T∧Tx lo W w):=fun w hb=>⟨⟨q,p,nb,ev,h.below hb⟩,.of_below hb hlo⟩
 have HD:=hide (dirB h hn)
 have hb0:=hide (Below.refl W.heap.size W)
 cases hx:T.dir dir with
 | none =>
  have e1:T.partE dir s=1:=by simp [Tr.partE,hx]
  have e2:T.part dir s=T:=by simp [Tr.part,e1]
  rw [e1,e2]
  rw [hx] at HD
  obtain ⟨pv,hpv⟩:∃ pv,pv=(if (T.nd dir).isSome=true then P0 (nb dir) else Value.pointer none):=⟨_,rfl⟩
  rw [← hpv] at HD
  clear h hw hx e1 e2 hpv hself
  go_enter Tryz.func64,Tryz.ntmps64
  go_wp2_with (go_at_call 116;refine (unhide HD _ (unhide hb0)).mono ?_;rintro e w1 ⟨rfl,hb1⟩)
  go_ret
  exact ⟨rfl,unhide HTp _ (unhide hb1)⟩
 | some d =>
  obtain ⟨hd,hk1⟩:=Tr.dir_some.1 hx
  rw [hx,hd] at HD
  simp only [Option.isSome_some,if_true] at HD
  have HFi:=hide (findB h hw hB hd s)
  cases hm:getE d.ins s with
  | none =>
   have e1:T.partE dir s=32:=by simp [Tr.partE,hx,hm]
   have e2:T.part dir s=T:=by simp [Tr.part,e1]
   rw [e1,e2]
   rw [hm] at HFi
   obtain ⟨b,hbb⟩:∃ b,b=nb dir:=⟨_,rfl⟩
   rw [← hbb] at HD HFi
   clear h hw hx e1 e2 hself hd hk1 hm hbb
   go_enter Tryz.func64,Tryz.ntmps64
   go_wp2_with (first | (go_at_call 116;refine (unhide HD _ (unhide hb0)).mono ?_;rintro e w1 ⟨rfl,hb1⟩) | (go_at_call 117;refine (unhide HFi _ (unhide hb1)).mono ?_;rintro e w2 ⟨rfl,hb2⟩))
   go_ret
   exact ⟨rfl,unhide HTp _ (unhide hb2)⟩
  | some m =>
   obtain ⟨y,hy,hy1⟩:=hw.at hd hm
   rw [hm] at HFi
   simp only [Option.getD_some,Option.isSome_some] at HFi
   have hmw:=hw.wf (by omega) hy
   have HC:Hid (∀ w,Below W.heap.size W w→w.cell? ⟨t,2,none⟩=some (.map (some q))∧(Instr.lookup 123 (.map (some q)) (I m) false).run Tryz.prog w=.ok (P0 (nb m)) w∧w.cell? ⟨nb m,7,none⟩=some (ev m)):=fun w hb=>by
    have h1:=h.below hb
    have hlk:=h1.look hmw
    rw [hy] at hlk
    simp only [Option.isSome_some,if_true] at hlk
    obtain ⟨-,-,-,-,-,-,-,d7,-,-,-⟩:=ndcells (h1.hn m y hy).1
    exact ⟨h1.cells.2.2.1,hlk,d7⟩
   obtain ⟨ad,cap,hv⟩:=own_form (h.hn m y hy).2
   rw [hv] at HC
   have hpE:T.partE dir s=if 0 < y.ins.length then 47 else 0:=by simp [Tr.partE,hx,hm,Tr.insOf,hy]
   by_cases hz:0 < y.ins.length
   ·rw [if_pos hz] at hpE
    have e2:T.part dir s=T:=by simp [Tr.part,hpE]
    rw [hpE,e2]
    obtain ⟨L,hL⟩:∃ L,L=y.ins.length:=⟨_,rfl⟩
    rw [← hL] at HC hz
    have hz2:(0:Int) < (L:Int):=by omega
    obtain ⟨b,hbb⟩:∃ b,b=nb dir:=⟨_,rfl⟩
    obtain ⟨bm,hbm⟩:∃ bm,bm=nb m:=⟨_,rfl⟩
    rw [← hbb] at HD HFi
    rw [← hbm] at HC
    clear h hw hx hpE e2 hself hd hk1 hm hbb hbm hy hy1 hv hL hz
    go_enter Tryz.func64,Tryz.ntmps64
    go_wp2_with (first | (go_at_call 116;refine (unhide HD _ (unhide hb0)).mono ?_;rintro e w1 ⟨rfl,hb1⟩) | (go_at_call 117;refine (unhide HFi _ (unhide hb1)).mono ?_;rintro e w2 ⟨rfl,hb2⟩;obtain ⟨f1,f2,f3⟩:=unhide HC w2 (unhide hb2)))
    go_ret
    exact ⟨rfl,unhide HTp _ (unhide hb2)⟩
   ·rw [if_neg hz] at hpE
    have e2:T.part dir s=T.take dir s:=by simp [Tr.part,hpE]
    rw [hpE,e2]
    have hz2:y.ins.length=0:=by omega
    rw [hz2] at HC
    have HT:Hid (∀ w,Below W.heap.size W w→Calls Tryz.prog 125 #[P0 t,P0 (nb dir),.string s] w fun e w'=>e=.returned (.tuple #[])∧Hid (Tp lo N w' t (T.take dir s)∧Tx lo W w')):=fun w hb=>by
     refine (take_any (B:=B) (h.below hb) (by omega) hmw hd hy (fun e=>hself d hd (by rw [e];exact hm)) (hw.srt dir d hd) (by have:=(hw.bnd dir d hd).2.2;omega) ⟨hy1,by have:=(hw.bnd m y hy).1;omega⟩ ⟨(hw.fil m y hy).1,(hw.fil m y hy).2.1⟩ s hm).mono ?_
     rintro e w' ⟨h1,ev',h2,h3⟩
     exact ⟨h1,⟨q,p,nb,ev',h2⟩,(Tx.of_below hb hlo).trans h3⟩
    obtain ⟨b,hbb⟩:∃ b,b=nb dir:=⟨_,rfl⟩
    obtain ⟨bm,hbm⟩:∃ bm,bm=nb m:=⟨_,rfl⟩
    rw [← hbb] at HD HFi HT
    rw [← hbm] at HC
    clear h hw hx hpE e2 hself hd hk1 hm hbb hbm hy hy1 hv hz hz2
    go_enter Tryz.func64,Tryz.ntmps64
    go_wp2_with (first | (go_at_call 116;refine (unhide HD _ (unhide hb0)).mono ?_;rintro e w1 ⟨rfl,hb1⟩) | (go_at_call 117;refine (unhide HFi _ (unhide hb1)).mono ?_;rintro e w2 ⟨rfl,hb2⟩;obtain ⟨f1,f2,f3⟩:=unhide HC w2 (unhide hb2)) | (go_at_call 125;refine (unhide HT _ (unhide hb2)).mono ?_;rintro e w3 ⟨rfl,FF⟩))
    go_ret
    exact ⟨rfl,unhide FF⟩
theorem yields_any (h:TrI lo N W t T q p nb ev) {old:Int} (hn:(kl old).wf=true) {y:Nd} (hy:T.nd old=some y) (td:Bool) (w:World) (hb:Below W.heap.size W w) :
  Calls Tryz.prog 133 #[P0 t,I old,.bool td] w fun e w'=>e=.returned (I (T.yieldsE old td))∧w'=w:=by
 have h1:=h.below hb
 obtain ⟨c0,c1,c2,c3,cf⟩:=h1.cells
 have hlk:=h1.look hn
 rw [hy] at hlk
 simp only [Option.isSome_some,if_true] at hlk
 obtain ⟨d0,-,-,-,-,-,-,d7,-,-,df⟩:=ndcells (h1.hn old y hy).1
 obtain ⟨ad,cap,hv⟩:=own_form (h1.hn old y hy).2
 rw [hv] at d7
 have hE:T.yieldsE old td=if td=true∧y.kind≠1 then 37 else if td=false∧y.kind=1 then 38 else if 0 < y.ins.length then 47 else 0:=by simp [Tr.yieldsE,Tr.kindOf,Tr.insOf,hy]
 obtain ⟨L,hL⟩:∃ L,L=y.ins.length:=⟨_,rfl⟩
 obtain ⟨kd,hkd⟩:∃ kd,kd=y.kind:=⟨_,rfl⟩
 obtain ⟨E,hEE⟩:∃ E,E=T.yieldsE old td:=⟨_,rfl⟩
 rw [← hL] at d7 hE
 rw [← hkd] at d0 hE
 rw [← hEE] at hE ⊢
 clear h h1 hy hv hL hkd hEE hb
 by_cases hk:kd=1
 ·subst hk
  cases td with
  | false =>
   simp at hE
   subst hE
   go_enter Tryz.func133,Tryz.ntmps133
   go_wp2_with fail
   go_ret
   exact ⟨rfl,rfl⟩
  | true =>
   by_cases hz:0 < L
   ·have hz2:(0:Int) < (L:Int):=by omega
    simp [hz] at hE
    subst hE
    go_enter Tryz.func133,Tryz.ntmps133
    go_wp2_with fail
    go_ret
    exact ⟨rfl,rfl⟩
   ·obtain rfl:L=0:=by omega
    simp at hE
    subst hE
    clear hz
    go_enter Tryz.func133,Tryz.ntmps133
    go_wp2_with fail
    go_ret
    exact ⟨rfl,rfl⟩
 ·cases td with
  | true =>
   simp [hk] at hE
   subst hE
   go_enter Tryz.func133,Tryz.ntmps133
   go_wp2_with fail
   go_ret
   exact ⟨rfl,rfl⟩
  | false =>
   by_cases hz:0 < L
   ·have hz2:(0:Int) < (L:Int):=by omega
    simp [hk,hz] at hE
    subst hE
    go_enter Tryz.func133,Tryz.ntmps133
    go_wp2_with fail
    go_ret
    exact ⟨rfl,rfl⟩
   ·obtain rfl:L=0:=by omega
    simp [hk] at hE
    subst hE
    clear hz
    go_enter Tryz.func133,Tryz.ntmps133
    go_wp2_with fail
    go_ret
    exact ⟨rfl,rfl⟩
end
open Go.RowKit Go.Maps
theorem Tr.new_wk (nodes blocks:Nat) (hn:1≤nodes∧nodes≤64):Wk 1 (Tr.new nodes blocks):=by
 have hnd:∀ k x,(Tr.new nodes blocks).nd k=some x→k=1∧x=⟨1,493,0,0,1,0,1,[],0,⟨#[]⟩⟩:=fun k x h=>by
  simp only [Tr.new] at h
  split at h
  ·cases h;exact ⟨by assumption,rfl⟩
  ·cases h
 refine ⟨fun k x h=>?_,fun k x h=>?_,fun k x h e he=>?_,Nat.le_refl _,fun k x h=>?_,fun k x h e he=>?_,fun k x h=>?_,fun k x h=>?_,fun k x h=>?_,fun k x h=>?_,fun k x h=>?_,by simp [Tr.new],hn.2⟩
 all_goals obtain ⟨rfl,rfl⟩:=hnd k x h
 ·exact ⟨by decide,by simp [Tr.new]⟩
 ·exact List.Pairwise.nil
 ·simp at he
 ·exact ⟨by decide,by decide,by decide⟩
 ·simp at he
 ·decide
 ·exact ⟨by decide,by decide,fun _=>rfl⟩
 ·decide
 ·decide
 ·rfl
def Tr.bare (nodes blocks:Nat):Tr:=⟨nodes,0,fun _=>none,⟨blocks,[]⟩⟩
theorem Tr.bare_wk (nodes blocks:Nat) (hn:nodes≤64):Wk 0 (Tr.bare nodes blocks):=by
 have hno:∀ k x,(Tr.bare nodes blocks).nd k=some x→False:=fun k x h=>by simp [Tr.bare] at h
 exact ⟨fun k x h=>(hno k x h).elim,fun k x h=>(hno k x h).elim,fun k x h=>(hno k x h).elim,Nat.le_refl _,fun k x h=>(hno k x h).elim,fun k x h=>(hno k x h).elim,fun k x h=>(hno k x h).elim,fun k x h=>(hno k x h).elim,fun k x h=>(hno k x h).elim,fun k x h=>(hno k x h).elim,fun k x h=>(hno k x h).elim,by simp [Tr.bare],hn⟩
theorem new_good' (nodes blocks:Nat) (hn:1≤nodes∧nodes≤64) (hb:blocks≤256) (w:World) :
  Calls Tryz.prog 16 #[I (nodes:Int),I (blocks:Int)] w fun e w'=>∃ t,e=.returned (.tuple #[P0 t,I 0])∧Tp w.heap.size blocks w' t (Tr.new nodes blocks)∧Below w.heap.size w w':=by
 have HN:=hide (new_good blocks hb w)
 have hmm:=@run_makeMap Tryz.prog
 have q1:¬ ((nodes:Int) < 1):=by omega
 have q2:¬ ((64:Int) < (nodes:Int)):=by omega
 have HNN:=hide hn
 clear hn
 go_enter Tryz.func16,Tryz.ntmps16
 go_wp2_with (go_at_call 59;refine (unhide HN).mono ?_;rintro e w1 ⟨p,rfl,hp,hB1⟩;have HP:=hide hp;have HB:=hide hB1;clear hp hB1)
 obtain ⟨V,hV⟩:∃ V,V=(w1.alloc (Obj.map #[] 0)).alloc (Obj.cells #[I (nodes:Int),Value.int IntKind.i64 0,Value.map (some w1.heap.size),P0 p] 125):=⟨_,rfl⟩
 rw [← hV]
 have hs1:=(unhide HB).size
 have hBV:Below w1.heap.size w1 V:=by rw [hV];exact ((Below.refl _ w1).alloc (Nat.le_refl _) _).alloc (by simp) _
 have hsz:V.heap.size=w1.heap.size + 2:=by rw [hV];simp
 have ht:V.heap[w1.heap.size + 1]?=some (.cells #[I (nodes:Int),Value.int IntKind.i64 0,Value.map (some w1.heap.size),P0 p] 125):=by
  have:=heap_alloc_new (w1.alloc (Obj.map #[] 0)) (Obj.cells #[I (nodes:Int),Value.int IntKind.i64 0,Value.map (some w1.heap.size),P0 p] 125)
  simp only [World.size_alloc] at this
  rw [hV];exact this
 have hmp:Mp V w1.heap.size 0 (fun _=>none):=by rw [hV];exact (Mp.made w1).alloc _
 have TV:TrI w.heap.size blocks V (w1.heap.size + 1) (Tr.bare nodes blocks) w1.heap.size p (fun _=>0) (fun _=>.slice none 0 0):=by
  refine ⟨ht,(hmp.mono (by omega)).congr fun k=>rfl,fun k x h=>by simp [Tr.bare] at h,fun j k x y h=>by simp [Tr.bare] at h,?_,⟨by omega,by omega,by omega,fun k x h=>by simp [Tr.bare] at h⟩⟩
  exact (unhide HP).rebase hBV (Nat.le_refl _) fun b hb=>.inr ⟨by rw [hb];exact Nat.le_refl _,by rw [hb];omega⟩
 have HA0:=add_any TV (Tr.bare_wk nodes blocks (unhide HNN).2) (by omega) 0 1 493 0 0 0 0 ⟨#[]⟩ (by decide)
 have HA:Hid (Calls Tryz.prog 60 #[Value.pointer (some ⟨w1.heap.size + 1,0,none⟩),Value.agg #[Value.int IntKind.i64 0,Value.int IntKind.i64 1,Value.int IntKind.i64 493,Value.int IntKind.i64 0,Value.int IntKind.i64 0,Value.int IntKind.i64 0,Value.int IntKind.i64 0],Value.string ⟨#[]⟩] V fun e w2=>e=.returned (I 1)∧∃ b,(w2.cell? ⟨w1.heap.size + 1,2,none⟩=some (.map (some w1.heap.size))∧(Instr.lookup 123 (.map (some w1.heap.size)) (I 1) false).run Tryz.prog w2.drew=.ok (P0 b) w2.drew∧w2.cell? ⟨b,4,none⟩=some (I 0)∧w2.cell? ⟨b,6,none⟩=some (I 0)∧∀ i,w2.frozen? ⟨b,i,none⟩=false)∧Hid (∀ w3:World,w3=((w2.setCell ⟨b,4,none⟩ (I 1)).setCell ⟨b,6,none⟩ (I 1)).drew→Tp w.heap.size blocks w3 (w1.heap.size + 1) (Tr.new nodes blocks)∧Below w.heap.size w w3)):=by
  refine HA0.mono ?_
  rintro e w2 ⟨h1,b,T2,X2⟩
  have hnd:((Tr.bare nodes blocks).add 1 493 0 0 ⟨#[]⟩).nd 1=some ⟨1,493,0,0,0,0,0,[],0,⟨#[]⟩⟩:=by simp [Tr.add,Tr.bare];decide
  have hb2:=(T2.hn 1 _ hnd).1
  have hlk:=(T2.below (below_drew (Below.refl _ w2))).look (n:=1) (wf_of (by omega))
  rw [hnd] at hlk
  simp only [Option.isSome_some,if_true] at hlk
  have hb1:(if (1:Int)=((Tr.bare nodes blocks).made:Int) + 1 then b else 0)=b:=rfl
  simp only [hb1] at hb2 hlk
  obtain ⟨-,-,-,-,d4,-,d6,-,-,-,df⟩:=ndcells hb2
  refine ⟨h1,b,⟨T2.cells.2.2.1,hlk,d4,d6,df⟩,?_⟩
  rintro w3 rfl
  obtain ⟨T3,X3⟩:=T2.turn (n:=1) (y:=⟨1,493,0,0,1,0,1,[],0,⟨#[]⟩⟩) (v:=.slice none 0 0) (W':=((w2.setCell ⟨b,4,none⟩ (I 1)).setCell ⟨b,6,none⟩ (I 1)).drew) hnd (by
    simp only [hb1]
    exact (((Fn.refl _ _ _).set 4 _).set 6 _).drew) (by
    simp only [hb1]
    exact (heap_set (heap_set hb2 4 _) 6 _)) ⟨rfl,.inl ⟨rfl,rfl⟩⟩ (.inl rfl)
  have e:((Tr.bare nodes blocks).add 1 493 0 0 ⟨#[]⟩).set 1 (some ⟨1,493,0,0,1,0,1,[],0,⟨#[]⟩⟩)=Tr.new nodes blocks:=by
   simp only [Tr.set,Tr.add,Tr.bare,Tr.new]
   congr 1
   funext k
   by_cases hk:k=1
   ·simp [hk]
   ·simp [hk]
  rw [← e]
  exact ⟨⟨_,_,_,_,T3⟩,(unhide HB).trans (((hBV.mono hs1)).trans ((X2.trans X3).bel))⟩
 obtain ⟨tb,htb⟩:∃ tb,tb=w1.heap.size + 1:=⟨_,rfl⟩
 obtain ⟨qb,hqb⟩:∃ qb,qb=w1.heap.size:=⟨_,rfl⟩
 rw [← htb] at HA ⊢
 rw [← hqb] at HA ⊢
 clear hV TV HA0 hmp ht hsz hBV hs1 htb hqb HP
 refine (unhide HA).mono ?_
 rintro e w2 ⟨rfl,b,⟨y2,yl,y4,y6,yf⟩,FF⟩
 go_wp2_with fail
 go_region
 go_wp2_with fail
 go_ret2
 exact ⟨tb,rfl,unhide FF _ rfl⟩
end Go.Proofs.YtlngeaacjbdmhaaGreat
