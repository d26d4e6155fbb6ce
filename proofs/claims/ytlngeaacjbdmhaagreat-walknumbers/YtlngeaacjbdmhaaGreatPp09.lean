/-
 The contract of Within.
-/
import Derived.Test.YtlngeaacjbdmhaaGreatPp04
set_option maxRecDepth 100000
set_option maxHeartbeats 1000000
namespace Go.Proofs.YtlngeaacjbdmhaaGreat
open Go.RowKit Go.Shelf Go.Maps
attribute [local go_sem] Oper.semAt_some
theorem above_any (t:Nat) (n:Int) (w:World):Calls Tryz.prog 80 #[P0 t,I n] w fun e w'=>e=.returned (.func (.func 142) #[] #[.pointer (some ⟨w.heap.size + 1,0,none⟩),.pointer (some ⟨w.heap.size,0,none⟩)])∧w'=(w.alloc (.cells #[P0 t] 23)).alloc (.cells #[I n] 3):=by
 go_enter Tryz.func80,Tryz.ntmps80
 go_wp2
 go_ret
 exact ⟨rfl,rfl⟩
theorem Ab.wf {B:Nat} {T:Tr} (hw:Wk B T) (hB:B≤900):∀ {l:List Int} {n:Int},Ab T n l→∀ u ∈ l,(kl u).wf=true
 | [],_,_,_,h=>by simp at h
 | a :: l,n,h,u,hu=>by
  obtain ⟨h1,h2,h3,h4⟩:=h
  rcases List.mem_cons.1 hu with rfl | hu
  ·simp only [Tr.up] at h1
   cases hx:T.dir n with
   | none=>rw [hx] at h1;simp at h1;omega
   | some x =>
    rw [hx] at h1
    simp only at h1
    obtain ⟨g1,g2⟩:=Tr.dir_some.1 hx
    split at h1
    ·omega
    ·have:=hw.upw n x g1
     exact wf_of (by omega)
  ·exact Ab.wf hw hB h4 u hu
theorem Ab.nodup {T:Tr}:∀ {l:List Int} {n:Int},Ab T n l→l.Nodup
 | [],_,_=>List.nodup_nil
 | a :: l,n,h=>by
  obtain ⟨_,_,_,h4⟩:=h
  exact List.nodup_cons.2 ⟨h4.notin,Ab.nodup h4⟩
theorem idx_of:∀ {l:List Int},l.Nodup→∀ {i:Nat} {u:Int},l[i]?=some u→l.idxOf u=i
 | [],_,_,_,hu=>by simp at hu
 | a :: l,_,0,u,hu=>by
  simp at hu
  subst hu
  simp
 | a :: l,h,i + 1,u,hu=>by
  have hu':l[i]?=some u:=by simpa using hu
  have hm:u ∈ l:=List.mem_of_getElem? hu'
  have hne:¬ a=u:=fun e=>(List.nodup_cons.1 h).1 (by rw [e];exact hm)
  have:=idx_of (List.nodup_cons.1 h).2 hu'
  have hb:(a == u)=false:=by simpa using hne
  simp [List.idxOf_cons,hb,this]
theorem Ab.fin {T:Tr} {a:Int} {ls:List Int} {i:Nat} (h:Ab T a (ls.drop i)) (hi:i≤ls.length) (hu:T.up a=0 ∨ T.up a=a):i=ls.length:=by
 cases e:ls.drop i with
 | nil =>
  have:=List.drop_eq_nil_iff.1 e
  omega
 | cons u l =>
  rw [e] at h
  obtain ⟨h1,h2,h3,_⟩:=h
  omega
theorem Ab.next {T:Tr} {a:Int} {ls:List Int} {i:Nat} (h:Ab T a (ls.drop i)) (h0:T.up a≠0) (h1:T.up a≠a):ls[i]?=some (T.up a)∧Ab T (T.up a) (ls.drop (i + 1)):=by
 cases e:ls.drop i with
 | nil =>
  rw [e] at h
  simp only [Ab] at h
  omega
 | cons u l =>
  rw [e] at h
  obtain ⟨g1,g2,g3,g4⟩:=h
  rw [g1]
  have e1:ls[i]?=some u:=by
   have:(ls.drop i)[0]?=some u:=by rw [e];rfl
   simpa using this
  refine ⟨e1,?_⟩
  have:ls.drop (i + 1)=l:=by
   have h2:(ls.drop i).drop 1=l:=by rw [e];rfl
   rw [List.drop_drop] at h2
   exact h2
  rw [this];exact g4
def mea (ls:List Int) (s4 s5:Value):Nat:=if intOf s5=0 ∨ intOf s5=intOf s4 then 0 else ls.length - ls.idxOf (intOf s5)
theorem mea_lt {T:Tr} {ls:List Int} (hn:ls.Nodup) {i:Nat} {a u:Int} (hi:i < ls.length) (hx:ls.idxOf u=i) (h0:u≠0) (h1:u≠a) (h:Ab T u (ls.drop (i + 1))):mea ls (.int .i64 u) (.int .i64 (T.up u)) < mea ls (.int .i64 a) (.int .i64 u):=by
 unfold mea
 show (if T.up u=0 ∨ T.up u=u then 0 else ls.length - ls.idxOf (T.up u)) < (if u=0 ∨ u=a then 0 else ls.length - ls.idxOf u)
 rw [if_neg (show ¬ (u=0 ∨ u=a) by omega),hx]
 by_cases e:T.up u=0 ∨ T.up u=u
 ·rw [if_pos e];omega
 ·rw [if_neg e]
  have hx2:=(h.next (by omega) (by omega)).1
  rw [idx_of hn hx2]
  omega
section
variable {lo N:Nat} {T:Tr} {q p:Nat} {nb:Int→Nat} {ev:Int→Value} {B:Nat}
theorem above_iter {V:World} {t:Nat} (hT:TrI lo N V t T q p nb ev) (hw:Wk B T) (hB:B≤890) (l xn xt:Nat) (n:Int) (hn:(kl n).wf=true) (ls:List Int) (hl:Ab T n ls) (W:World) (J:Nat→World→Prop) (S:World→Prop) (hJ0:J 0 W)
  (hJA:∀ i W',J i W'→Below V.heap.size V W'∧W'.cell? ⟨xn,0,none⟩=some (I n)∧W'.cell? ⟨xt,0,none⟩=some (P0 t))
  (hJD:∀ i W' k,J i W'→J i (W'.drewN k))
  (hY:∀ (i:Nat) W' u,J i W'→ls[i]?=some u→YieldAt Fence.wide (3 - 1) Tryz.prog l #[.int .i64 u] W' fun e W2=>(e=.returned (.bool true)∧J (i + 1) W2) ∨ (e=.returned (.bool false)∧S W2)) :
  CallsIn Fence.wide 3 Tryz.prog 142 #[.func (.yield l) #[] #[],.pointer (some ⟨xn,0,none⟩),.pointer (some ⟨xt,0,none⟩)] W fun e W'=>e=.returned (.tuple #[])∧(J ls.length W' ∨ S W'):=by
 have hro:Fence.wide.round=none:=rfl
 have HY:=hide hY
 have HA:=hide hJA
 have HD:=hide hJD
 have HU:Hid (∀ i W' m,J i W'→(kl m).wf=true→Calls Tryz.prog 89 #[P0 t,I m] W' fun e w'=>e=.returned (I (T.up m))∧J i w'):=fun i W' m hJ hm=>by
  refine (up_any (hT.below (hJA i W' hJ).1) hm).mono ?_
  rintro e w' ⟨h1,k,rfl⟩
  exact ⟨h1,hJD i W' k hJ⟩
 have HWF:=hide (hl.wf hw (by omega))
 have HL:=hide hl
 have HN:=hide hn
 obtain ⟨_,x0,x1⟩:=hJA 0 W hJ0
 clear hY hJA hJD hT hw hl hn
 refine callsIn_of_wp Tryz.func142 rfl trivial ?_ hro
 simp only [Tryz.ntmps142,List.size_toArray,List.length_cons,List.length_nil,Nat.reduceAdd,Nat.reduceSub,Array.replicate_succ,Array.replicate_zero,List.push_toArray,List.append_toArray,List.nil_append,List.cons_append]
 have HU1:=hide (unhide HU 0 W.drew n (unhide HD 0 W 1 hJ0) (unhide HN))
 have HND:=hide (unhide HL).nodup
 clear hJ0
 gi_wp2_with fail
 refine wpIn_region_any (by kernel_rfl) ?_
 refine wpAnyIn_ready (rs:=[0,1,2]) (by kernel_rfl) (by simp) ?_
 refine AllReadyIn.cons rfl (fun K hK=>?_) ?_
 ·go_simp
  refine hK _ _ ?_
  clear hK K
  refine wpAnyIn_ready (rs:=[1,2]) (by kernel_rfl) (by simp) ?_
  refine AllReadyIn.cons rfl (fun K hK=>?_) ?_
  ·go_simp
   refine hK _ _ ?_
   clear hK K
   refine wpAnyIn_ready (rs:=[2]) (by kernel_rfl) (by simp) ?_
   refine AllReadyIn.cons rfl (fun K hK=>?_) ?_
   ·go_simp
    refine hK _ _ ?_
    clear hK K
    refine wpAnyIn_ready (rs:=[3]) (by kernel_rfl) (by simp) ?_
    refine AllReadyIn.cons rfl (fun K hK=>?_) ?_
    ·go_simp
     refine ⟨trivial,(callsIn_wide.2 (unhide HU1)).mono ?_⟩
     rintro e w5 ⟨rfl,hJ5⟩
     obtain ⟨_,y0,y1⟩:=unhide HA 0 w5 hJ5
     have HJ5:=hide hJ5
     clear hJ5
     refine hK _ _ ?_
     clear hK K
     refine wpAnyIn_ready (rs:=[4]) (by kernel_rfl) (by simp) ?_
     refine AllReadyIn.cons rfl (fun K hK=>?_) ?_
     ·go_simp
      refine hK _ _ ?_
      clear hK K
      refine wpAnyIn_ready (rs:=[5]) (by kernel_rfl) (by simp) ?_
      refine AllReadyIn.cons rfl (fun K hK=>?_) ?_
      ·go_simp
       refine hK _ _ ?_
       clear hK K
       refine wpAnyIn_done (by kernel_rfl) ?_ _
       gi_wp2_with fail
       gi_loopw [4,5] (fun s4 s5 wr=>∃ (i:Nat) (a:Int),i≤ls.length∧s4=.int .i64 a∧s5=.int .i64 (T.up a)∧Hid (Ab T a (ls.drop i))∧Hid (J i wr)) (fun s4 s5 _=>mea ls s4 s5)
       case atStart=>exact ⟨0,n,Nat.zero_le _,rfl,rfl,HL,HJ5⟩
       case round =>
        obtain ⟨i,a,hi,rfl,rfl,HAB,HJ⟩:=hrel
        by_cases h0:T.up a=0
        ·have hfin:i=ls.length:=(unhide HAB).fin hi (.inl h0)
         rw [h0]
         clear h0 HAB hi
         gi_wp2_with fail
         go_end0
         exact ⟨rfl,.inl (by rw [← hfin];exact unhide HJ)⟩
        ·by_cases h1:T.up a=a
         ·have hfin:i=ls.length:=(unhide HAB).fin hi (.inr h1)
          rw [h1] at h0 ⊢
          clear h1 HAB hi
          gi_wp2_with fail
          go_end0
          exact ⟨rfl,.inl (by rw [← hfin];exact unhide HJ)⟩
         ·obtain ⟨hl1,hab⟩:=(unhide HAB).next h0 h1
          generalize hua:T.up a=u at *
          have hil:=(List.getElem?_eq_some_iff.1 hl1).1
          have hmem:u ∈ ls:=List.mem_of_getElem? hl1
          have hidx:=hide (idx_of (unhide HND) hl1)
          have HAB2:=hide hab
          have b0:(u != 0)=true:=by simpa using h0
          have b1:(u != a)=true:=by simpa using h1
          obtain ⟨fn,tmps,assign,body,hyy,hR⟩:=unhide HY i wr u (unhide HJ) hl1
          have HR:=hide hR
          have HWU:=hide (unhide HWF u hmem)
          clear hl1 hab hua hmem HAB hR
          gi_wp2_with fail
          refine (unhide HR).mono ?_
          rintro e W2 (⟨rfl,hJ2⟩ | ⟨rfl,hS⟩)
          ·obtain ⟨_,y0,y1⟩:=unhide HA (i + 1) W2 hJ2
           have HU2:=hide (unhide HU (i + 1) W2 u hJ2 (unhide HWU))
           clear hJ2
           gi_wp2_with fail
           refine ⟨trivial,(callsIn_wide.2 (unhide HU2)).mono ?_⟩
           rintro e W3 ⟨rfl,hJ3⟩
           have HJ3:=hide hJ3
           clear hJ3
           gi_wp2_with fail
           refine ⟨⟨i + 1,u,by omega,rfl,rfl,HAB2,HJ3⟩,?_⟩
           exact mea_lt (unhide HND) hil (unhide hidx) h0 h1 (unhide HAB2)
          ·gi_wp2_with fail
           refine bodyPost_ret (results_none rfl _ _ _) rfl ?_
           exact ⟨rfl,.inr hS⟩
      exact AllReadyIn.nil
     exact AllReadyIn.nil
    exact AllReadyIn.nil
   exact AllReadyIn.nil
  refine AllReadyIn.cons rfl (fun K hK=>?_) ?_
  ·go_simp
   refine hK _ _ ?_
   clear hK K
   refine wpAnyIn_ready (rs:=[1]) (by kernel_rfl) (by simp) ?_
   refine AllReadyIn.cons rfl (fun K hK=>?_) ?_
   ·go_simp
    refine hK _ _ ?_
    clear hK K
    refine wpAnyIn_ready (rs:=[3]) (by kernel_rfl) (by simp) ?_
    refine AllReadyIn.cons rfl (fun K hK=>?_) ?_
    ·go_simp
     refine ⟨trivial,(callsIn_wide.2 (unhide HU1)).mono ?_⟩
     rintro e w5 ⟨rfl,hJ5⟩
     obtain ⟨_,y0,y1⟩:=unhide HA 0 w5 hJ5
     have HJ5:=hide hJ5
     clear hJ5
     refine hK _ _ ?_
     clear hK K
     refine wpAnyIn_ready (rs:=[4]) (by kernel_rfl) (by simp) ?_
     refine AllReadyIn.cons rfl (fun K hK=>?_) ?_
     ·go_simp
      refine hK _ _ ?_
      clear hK K
      refine wpAnyIn_ready (rs:=[5]) (by kernel_rfl) (by simp) ?_
      refine AllReadyIn.cons rfl (fun K hK=>?_) ?_
      ·go_simp
       refine hK _ _ ?_
       clear hK K
       refine wpAnyIn_done (by kernel_rfl) ?_ _
       gi_wp2_with fail
       gi_loopw [4,5] (fun s4 s5 wr=>∃ (i:Nat) (a:Int),i≤ls.length∧s4=.int .i64 a∧s5=.int .i64 (T.up a)∧Hid (Ab T a (ls.drop i))∧Hid (J i wr)) (fun s4 s5 _=>mea ls s4 s5)
       case atStart=>exact ⟨0,n,Nat.zero_le _,rfl,rfl,HL,HJ5⟩
       case round =>
        obtain ⟨i,a,hi,rfl,rfl,HAB,HJ⟩:=hrel
        by_cases h0:T.up a=0
        ·have hfin:i=ls.length:=(unhide HAB).fin hi (.inl h0)
         rw [h0]
         clear h0 HAB hi
         gi_wp2_with fail
         go_end0
         exact ⟨rfl,.inl (by rw [← hfin];exact unhide HJ)⟩
        ·by_cases h1:T.up a=a
         ·have hfin:i=ls.length:=(unhide HAB).fin hi (.inr h1)
          rw [h1] at h0 ⊢
          clear h1 HAB hi
          gi_wp2_with fail
          go_end0
          exact ⟨rfl,.inl (by rw [← hfin];exact unhide HJ)⟩
         ·obtain ⟨hl1,hab⟩:=(unhide HAB).next h0 h1
          generalize hua:T.up a=u at *
          have hil:=(List.getElem?_eq_some_iff.1 hl1).1
          have hmem:u ∈ ls:=List.mem_of_getElem? hl1
          have hidx:=hide (idx_of (unhide HND) hl1)
          have HAB2:=hide hab
          have b0:(u != 0)=true:=by simpa using h0
          have b1:(u != a)=true:=by simpa using h1
          obtain ⟨fn,tmps,assign,body,hyy,hR⟩:=unhide HY i wr u (unhide HJ) hl1
          have HR:=hide hR
          have HWU:=hide (unhide HWF u hmem)
          clear hl1 hab hua hmem HAB hR
          gi_wp2_with fail
          refine (unhide HR).mono ?_
          rintro e W2 (⟨rfl,hJ2⟩ | ⟨rfl,hS⟩)
          ·obtain ⟨_,y0,y1⟩:=unhide HA (i + 1) W2 hJ2
           have HU2:=hide (unhide HU (i + 1) W2 u hJ2 (unhide HWU))
           clear hJ2
           gi_wp2_with fail
           refine ⟨trivial,(callsIn_wide.2 (unhide HU2)).mono ?_⟩
           rintro e W3 ⟨rfl,hJ3⟩
           have HJ3:=hide hJ3
           clear hJ3
           gi_wp2_with fail
           refine ⟨⟨i + 1,u,by omega,rfl,rfl,HAB2,HJ3⟩,?_⟩
           exact mea_lt (unhide HND) hil (unhide hidx) h0 h1 (unhide HAB2)
          ·gi_wp2_with fail
           refine bodyPost_ret (results_none rfl _ _ _) rfl ?_
           exact ⟨rfl,.inr hS⟩
      exact AllReadyIn.nil
     exact AllReadyIn.nil
    exact AllReadyIn.nil
   exact AllReadyIn.nil
  exact AllReadyIn.nil
 refine AllReadyIn.cons rfl (fun K hK=>?_) ?_
 ·go_simp
  refine hK _ _ ?_
  clear hK K
  refine wpAnyIn_ready (rs:=[0,2]) (by kernel_rfl) (by simp) ?_
  refine AllReadyIn.cons rfl (fun K hK=>?_) ?_
  ·go_simp
   refine hK _ _ ?_
   clear hK K
   refine wpAnyIn_ready (rs:=[2]) (by kernel_rfl) (by simp) ?_
   refine AllReadyIn.cons rfl (fun K hK=>?_) ?_
   ·go_simp
    refine hK _ _ ?_
    clear hK K
    refine wpAnyIn_ready (rs:=[3]) (by kernel_rfl) (by simp) ?_
    refine AllReadyIn.cons rfl (fun K hK=>?_) ?_
    ·go_simp
     refine ⟨trivial,(callsIn_wide.2 (unhide HU1)).mono ?_⟩
     rintro e w5 ⟨rfl,hJ5⟩
     obtain ⟨_,y0,y1⟩:=unhide HA 0 w5 hJ5
     have HJ5:=hide hJ5
     clear hJ5
     refine hK _ _ ?_
     clear hK K
     refine wpAnyIn_ready (rs:=[4]) (by kernel_rfl) (by simp) ?_
     refine AllReadyIn.cons rfl (fun K hK=>?_) ?_
     ·go_simp
      refine hK _ _ ?_
      clear hK K
      refine wpAnyIn_ready (rs:=[5]) (by kernel_rfl) (by simp) ?_
      refine AllReadyIn.cons rfl (fun K hK=>?_) ?_
      ·go_simp
       refine hK _ _ ?_
       clear hK K
       refine wpAnyIn_done (by kernel_rfl) ?_ _
       gi_wp2_with fail
       gi_loopw [4,5] (fun s4 s5 wr=>∃ (i:Nat) (a:Int),i≤ls.length∧s4=.int .i64 a∧s5=.int .i64 (T.up a)∧Hid (Ab T a (ls.drop i))∧Hid (J i wr)) (fun s4 s5 _=>mea ls s4 s5)
       case atStart=>exact ⟨0,n,Nat.zero_le _,rfl,rfl,HL,HJ5⟩
       case round =>
        obtain ⟨i,a,hi,rfl,rfl,HAB,HJ⟩:=hrel
        by_cases h0:T.up a=0
        ·have hfin:i=ls.length:=(unhide HAB).fin hi (.inl h0)
         rw [h0]
         clear h0 HAB hi
         gi_wp2_with fail
         go_end0
         exact ⟨rfl,.inl (by rw [← hfin];exact unhide HJ)⟩
        ·by_cases h1:T.up a=a
         ·have hfin:i=ls.length:=(unhide HAB).fin hi (.inr h1)
          rw [h1] at h0 ⊢
          clear h1 HAB hi
          gi_wp2_with fail
          go_end0
          exact ⟨rfl,.inl (by rw [← hfin];exact unhide HJ)⟩
         ·obtain ⟨hl1,hab⟩:=(unhide HAB).next h0 h1
          generalize hua:T.up a=u at *
          have hil:=(List.getElem?_eq_some_iff.1 hl1).1
          have hmem:u ∈ ls:=List.mem_of_getElem? hl1
          have hidx:=hide (idx_of (unhide HND) hl1)
          have HAB2:=hide hab
          have b0:(u != 0)=true:=by simpa using h0
          have b1:(u != a)=true:=by simpa using h1
          obtain ⟨fn,tmps,assign,body,hyy,hR⟩:=unhide HY i wr u (unhide HJ) hl1
          have HR:=hide hR
          have HWU:=hide (unhide HWF u hmem)
          clear hl1 hab hua hmem HAB hR
          gi_wp2_with fail
          refine (unhide HR).mono ?_
          rintro e W2 (⟨rfl,hJ2⟩ | ⟨rfl,hS⟩)
          ·obtain ⟨_,y0,y1⟩:=unhide HA (i + 1) W2 hJ2
           have HU2:=hide (unhide HU (i + 1) W2 u hJ2 (unhide HWU))
           clear hJ2
           gi_wp2_with fail
           refine ⟨trivial,(callsIn_wide.2 (unhide HU2)).mono ?_⟩
           rintro e W3 ⟨rfl,hJ3⟩
           have HJ3:=hide hJ3
           clear hJ3
           gi_wp2_with fail
           refine ⟨⟨i + 1,u,by omega,rfl,rfl,HAB2,HJ3⟩,?_⟩
           exact mea_lt (unhide HND) hil (unhide hidx) h0 h1 (unhide HAB2)
          ·gi_wp2_with fail
           refine bodyPost_ret (results_none rfl _ _ _) rfl ?_
           exact ⟨rfl,.inr hS⟩
      exact AllReadyIn.nil
     exact AllReadyIn.nil
    exact AllReadyIn.nil
   exact AllReadyIn.nil
  refine AllReadyIn.cons rfl (fun K hK=>?_) ?_
  ·go_simp
   refine hK _ _ ?_
   clear hK K
   refine wpAnyIn_ready (rs:=[0,3]) (by kernel_rfl) (by simp) ?_
   refine AllReadyIn.cons rfl (fun K hK=>?_) ?_
   ·go_simp
    refine hK _ _ ?_
    clear hK K
    refine wpAnyIn_ready (rs:=[3]) (by kernel_rfl) (by simp) ?_
    refine AllReadyIn.cons rfl (fun K hK=>?_) ?_
    ·go_simp
     refine ⟨trivial,(callsIn_wide.2 (unhide HU1)).mono ?_⟩
     rintro e w5 ⟨rfl,hJ5⟩
     obtain ⟨_,y0,y1⟩:=unhide HA 0 w5 hJ5
     have HJ5:=hide hJ5
     clear hJ5
     refine hK _ _ ?_
     clear hK K
     refine wpAnyIn_ready (rs:=[4]) (by kernel_rfl) (by simp) ?_
     refine AllReadyIn.cons rfl (fun K hK=>?_) ?_
     ·go_simp
      refine hK _ _ ?_
      clear hK K
      refine wpAnyIn_ready (rs:=[5]) (by kernel_rfl) (by simp) ?_
      refine AllReadyIn.cons rfl (fun K hK=>?_) ?_
      ·go_simp
       refine hK _ _ ?_
       clear hK K
       refine wpAnyIn_done (by kernel_rfl) ?_ _
       gi_wp2_with fail
       gi_loopw [4,5] (fun s4 s5 wr=>∃ (i:Nat) (a:Int),i≤ls.length∧s4=.int .i64 a∧s5=.int .i64 (T.up a)∧Hid (Ab T a (ls.drop i))∧Hid (J i wr)) (fun s4 s5 _=>mea ls s4 s5)
       case atStart=>exact ⟨0,n,Nat.zero_le _,rfl,rfl,HL,HJ5⟩
       case round =>
        obtain ⟨i,a,hi,rfl,rfl,HAB,HJ⟩:=hrel
        by_cases h0:T.up a=0
        ·have hfin:i=ls.length:=(unhide HAB).fin hi (.inl h0)
         rw [h0]
         clear h0 HAB hi
         gi_wp2_with fail
         go_end0
         exact ⟨rfl,.inl (by rw [← hfin];exact unhide HJ)⟩
        ·by_cases h1:T.up a=a
         ·have hfin:i=ls.length:=(unhide HAB).fin hi (.inr h1)
          rw [h1] at h0 ⊢
          clear h1 HAB hi
          gi_wp2_with fail
          go_end0
          exact ⟨rfl,.inl (by rw [← hfin];exact unhide HJ)⟩
         ·obtain ⟨hl1,hab⟩:=(unhide HAB).next h0 h1
          generalize hua:T.up a=u at *
          have hil:=(List.getElem?_eq_some_iff.1 hl1).1
          have hmem:u ∈ ls:=List.mem_of_getElem? hl1
          have hidx:=hide (idx_of (unhide HND) hl1)
          have HAB2:=hide hab
          have b0:(u != 0)=true:=by simpa using h0
          have b1:(u != a)=true:=by simpa using h1
          obtain ⟨fn,tmps,assign,body,hyy,hR⟩:=unhide HY i wr u (unhide HJ) hl1
          have HR:=hide hR
          have HWU:=hide (unhide HWF u hmem)
          clear hl1 hab hua hmem HAB hR
          gi_wp2_with fail
          refine (unhide HR).mono ?_
          rintro e W2 (⟨rfl,hJ2⟩ | ⟨rfl,hS⟩)
          ·obtain ⟨_,y0,y1⟩:=unhide HA (i + 1) W2 hJ2
           have HU2:=hide (unhide HU (i + 1) W2 u hJ2 (unhide HWU))
           clear hJ2
           gi_wp2_with fail
           refine ⟨trivial,(callsIn_wide.2 (unhide HU2)).mono ?_⟩
           rintro e W3 ⟨rfl,hJ3⟩
           have HJ3:=hide hJ3
           clear hJ3
           gi_wp2_with fail
           refine ⟨⟨i + 1,u,by omega,rfl,rfl,HAB2,HJ3⟩,?_⟩
           exact mea_lt (unhide HND) hil (unhide hidx) h0 h1 (unhide HAB2)
          ·gi_wp2_with fail
           refine bodyPost_ret (results_none rfl _ _ _) rfl ?_
           exact ⟨rfl,.inr hS⟩
      exact AllReadyIn.nil
     exact AllReadyIn.nil
    exact AllReadyIn.nil
   refine AllReadyIn.cons rfl (fun K hK=>?_) ?_
   ·go_simp
    refine ⟨trivial,(callsIn_wide.2 (unhide HU1)).mono ?_⟩
    rintro e w5 ⟨rfl,hJ5⟩
    obtain ⟨_,y0,y1⟩:=unhide HA 0 w5 hJ5
    have HJ5:=hide hJ5
    clear hJ5
    refine hK _ _ ?_
    clear hK K
    refine wpAnyIn_ready (rs:=[0]) (by kernel_rfl) (by simp) ?_
    refine AllReadyIn.cons rfl (fun K hK=>?_) ?_
    ·go_simp
     refine hK _ _ ?_
     clear hK K
     refine wpAnyIn_ready (rs:=[4]) (by kernel_rfl) (by simp) ?_
     refine AllReadyIn.cons rfl (fun K hK=>?_) ?_
     ·go_simp
      refine hK _ _ ?_
      clear hK K
      refine wpAnyIn_ready (rs:=[5]) (by kernel_rfl) (by simp) ?_
      refine AllReadyIn.cons rfl (fun K hK=>?_) ?_
      ·go_simp
       refine hK _ _ ?_
       clear hK K
       refine wpAnyIn_done (by kernel_rfl) ?_ _
       gi_wp2_with fail
       gi_loopw [4,5] (fun s4 s5 wr=>∃ (i:Nat) (a:Int),i≤ls.length∧s4=.int .i64 a∧s5=.int .i64 (T.up a)∧Hid (Ab T a (ls.drop i))∧Hid (J i wr)) (fun s4 s5 _=>mea ls s4 s5)
       case atStart=>exact ⟨0,n,Nat.zero_le _,rfl,rfl,HL,HJ5⟩
       case round =>
        obtain ⟨i,a,hi,rfl,rfl,HAB,HJ⟩:=hrel
        by_cases h0:T.up a=0
        ·have hfin:i=ls.length:=(unhide HAB).fin hi (.inl h0)
         rw [h0]
         clear h0 HAB hi
         gi_wp2_with fail
         go_end0
         exact ⟨rfl,.inl (by rw [← hfin];exact unhide HJ)⟩
        ·by_cases h1:T.up a=a
         ·have hfin:i=ls.length:=(unhide HAB).fin hi (.inr h1)
          rw [h1] at h0 ⊢
          clear h1 HAB hi
          gi_wp2_with fail
          go_end0
          exact ⟨rfl,.inl (by rw [← hfin];exact unhide HJ)⟩
         ·obtain ⟨hl1,hab⟩:=(unhide HAB).next h0 h1
          generalize hua:T.up a=u at *
          have hil:=(List.getElem?_eq_some_iff.1 hl1).1
          have hmem:u ∈ ls:=List.mem_of_getElem? hl1
          have hidx:=hide (idx_of (unhide HND) hl1)
          have HAB2:=hide hab
          have b0:(u != 0)=true:=by simpa using h0
          have b1:(u != a)=true:=by simpa using h1
          obtain ⟨fn,tmps,assign,body,hyy,hR⟩:=unhide HY i wr u (unhide HJ) hl1
          have HR:=hide hR
          have HWU:=hide (unhide HWF u hmem)
          clear hl1 hab hua hmem HAB hR
          gi_wp2_with fail
          refine (unhide HR).mono ?_
          rintro e W2 (⟨rfl,hJ2⟩ | ⟨rfl,hS⟩)
          ·obtain ⟨_,y0,y1⟩:=unhide HA (i + 1) W2 hJ2
           have HU2:=hide (unhide HU (i + 1) W2 u hJ2 (unhide HWU))
           clear hJ2
           gi_wp2_with fail
           refine ⟨trivial,(callsIn_wide.2 (unhide HU2)).mono ?_⟩
           rintro e W3 ⟨rfl,hJ3⟩
           have HJ3:=hide hJ3
           clear hJ3
           gi_wp2_with fail
           refine ⟨⟨i + 1,u,by omega,rfl,rfl,HAB2,HJ3⟩,?_⟩
           exact mea_lt (unhide HND) hil (unhide hidx) h0 h1 (unhide HAB2)
          ·gi_wp2_with fail
           refine bodyPost_ret (results_none rfl _ _ _) rfl ?_
           exact ⟨rfl,.inr hS⟩
      exact AllReadyIn.nil
     exact AllReadyIn.nil
    exact AllReadyIn.nil
   exact AllReadyIn.nil
  exact AllReadyIn.nil
 refine AllReadyIn.cons rfl (fun K hK=>?_) ?_
 ·go_simp
  refine hK _ _ ?_
  clear hK K
  refine wpAnyIn_ready (rs:=[0,1]) (by kernel_rfl) (by simp) ?_
  refine AllReadyIn.cons rfl (fun K hK=>?_) ?_
  ·go_simp
   refine hK _ _ ?_
   clear hK K
   refine wpAnyIn_ready (rs:=[1]) (by kernel_rfl) (by simp) ?_
   refine AllReadyIn.cons rfl (fun K hK=>?_) ?_
   ·go_simp
    refine hK _ _ ?_
    clear hK K
    refine wpAnyIn_ready (rs:=[3]) (by kernel_rfl) (by simp) ?_
    refine AllReadyIn.cons rfl (fun K hK=>?_) ?_
    ·go_simp
     refine ⟨trivial,(callsIn_wide.2 (unhide HU1)).mono ?_⟩
     rintro e w5 ⟨rfl,hJ5⟩
     obtain ⟨_,y0,y1⟩:=unhide HA 0 w5 hJ5
     have HJ5:=hide hJ5
     clear hJ5
     refine hK _ _ ?_
     clear hK K
     refine wpAnyIn_ready (rs:=[4]) (by kernel_rfl) (by simp) ?_
     refine AllReadyIn.cons rfl (fun K hK=>?_) ?_
     ·go_simp
      refine hK _ _ ?_
      clear hK K
      refine wpAnyIn_ready (rs:=[5]) (by kernel_rfl) (by simp) ?_
      refine AllReadyIn.cons rfl (fun K hK=>?_) ?_
      ·go_simp
       refine hK _ _ ?_
       clear hK K
       refine wpAnyIn_done (by kernel_rfl) ?_ _
       gi_wp2_with fail
       gi_loopw [4,5] (fun s4 s5 wr=>∃ (i:Nat) (a:Int),i≤ls.length∧s4=.int .i64 a∧s5=.int .i64 (T.up a)∧Hid (Ab T a (ls.drop i))∧Hid (J i wr)) (fun s4 s5 _=>mea ls s4 s5)
       case atStart=>exact ⟨0,n,Nat.zero_le _,rfl,rfl,HL,HJ5⟩
       case round =>
        obtain ⟨i,a,hi,rfl,rfl,HAB,HJ⟩:=hrel
        by_cases h0:T.up a=0
        ·have hfin:i=ls.length:=(unhide HAB).fin hi (.inl h0)
         rw [h0]
         clear h0 HAB hi
         gi_wp2_with fail
         go_end0
         exact ⟨rfl,.inl (by rw [← hfin];exact unhide HJ)⟩
        ·by_cases h1:T.up a=a
         ·have hfin:i=ls.length:=(unhide HAB).fin hi (.inr h1)
          rw [h1] at h0 ⊢
          clear h1 HAB hi
          gi_wp2_with fail
          go_end0
          exact ⟨rfl,.inl (by rw [← hfin];exact unhide HJ)⟩
         ·obtain ⟨hl1,hab⟩:=(unhide HAB).next h0 h1
          generalize hua:T.up a=u at *
          have hil:=(List.getElem?_eq_some_iff.1 hl1).1
          have hmem:u ∈ ls:=List.mem_of_getElem? hl1
          have hidx:=hide (idx_of (unhide HND) hl1)
          have HAB2:=hide hab
          have b0:(u != 0)=true:=by simpa using h0
          have b1:(u != a)=true:=by simpa using h1
          obtain ⟨fn,tmps,assign,body,hyy,hR⟩:=unhide HY i wr u (unhide HJ) hl1
          have HR:=hide hR
          have HWU:=hide (unhide HWF u hmem)
          clear hl1 hab hua hmem HAB hR
          gi_wp2_with fail
          refine (unhide HR).mono ?_
          rintro e W2 (⟨rfl,hJ2⟩ | ⟨rfl,hS⟩)
          ·obtain ⟨_,y0,y1⟩:=unhide HA (i + 1) W2 hJ2
           have HU2:=hide (unhide HU (i + 1) W2 u hJ2 (unhide HWU))
           clear hJ2
           gi_wp2_with fail
           refine ⟨trivial,(callsIn_wide.2 (unhide HU2)).mono ?_⟩
           rintro e W3 ⟨rfl,hJ3⟩
           have HJ3:=hide hJ3
           clear hJ3
           gi_wp2_with fail
           refine ⟨⟨i + 1,u,by omega,rfl,rfl,HAB2,HJ3⟩,?_⟩
           exact mea_lt (unhide HND) hil (unhide hidx) h0 h1 (unhide HAB2)
          ·gi_wp2_with fail
           refine bodyPost_ret (results_none rfl _ _ _) rfl ?_
           exact ⟨rfl,.inr hS⟩
      exact AllReadyIn.nil
     exact AllReadyIn.nil
    exact AllReadyIn.nil
   exact AllReadyIn.nil
  refine AllReadyIn.cons rfl (fun K hK=>?_) ?_
  ·go_simp
   refine hK _ _ ?_
   clear hK K
   refine wpAnyIn_ready (rs:=[0,3]) (by kernel_rfl) (by simp) ?_
   refine AllReadyIn.cons rfl (fun K hK=>?_) ?_
   ·go_simp
    refine hK _ _ ?_
    clear hK K
    refine wpAnyIn_ready (rs:=[3]) (by kernel_rfl) (by simp) ?_
    refine AllReadyIn.cons rfl (fun K hK=>?_) ?_
    ·go_simp
     refine ⟨trivial,(callsIn_wide.2 (unhide HU1)).mono ?_⟩
     rintro e w5 ⟨rfl,hJ5⟩
     obtain ⟨_,y0,y1⟩:=unhide HA 0 w5 hJ5
     have HJ5:=hide hJ5
     clear hJ5
     refine hK _ _ ?_
     clear hK K
     refine wpAnyIn_ready (rs:=[4]) (by kernel_rfl) (by simp) ?_
     refine AllReadyIn.cons rfl (fun K hK=>?_) ?_
     ·go_simp
      refine hK _ _ ?_
      clear hK K
      refine wpAnyIn_ready (rs:=[5]) (by kernel_rfl) (by simp) ?_
      refine AllReadyIn.cons rfl (fun K hK=>?_) ?_
      ·go_simp
       refine hK _ _ ?_
       clear hK K
       refine wpAnyIn_done (by kernel_rfl) ?_ _
       gi_wp2_with fail
       gi_loopw [4,5] (fun s4 s5 wr=>∃ (i:Nat) (a:Int),i≤ls.length∧s4=.int .i64 a∧s5=.int .i64 (T.up a)∧Hid (Ab T a (ls.drop i))∧Hid (J i wr)) (fun s4 s5 _=>mea ls s4 s5)
       case atStart=>exact ⟨0,n,Nat.zero_le _,rfl,rfl,HL,HJ5⟩
       case round =>
        obtain ⟨i,a,hi,rfl,rfl,HAB,HJ⟩:=hrel
        by_cases h0:T.up a=0
        ·have hfin:i=ls.length:=(unhide HAB).fin hi (.inl h0)
         rw [h0]
         clear h0 HAB hi
         gi_wp2_with fail
         go_end0
         exact ⟨rfl,.inl (by rw [← hfin];exact unhide HJ)⟩
        ·by_cases h1:T.up a=a
         ·have hfin:i=ls.length:=(unhide HAB).fin hi (.inr h1)
          rw [h1] at h0 ⊢
          clear h1 HAB hi
          gi_wp2_with fail
          go_end0
          exact ⟨rfl,.inl (by rw [← hfin];exact unhide HJ)⟩
         ·obtain ⟨hl1,hab⟩:=(unhide HAB).next h0 h1
          generalize hua:T.up a=u at *
          have hil:=(List.getElem?_eq_some_iff.1 hl1).1
          have hmem:u ∈ ls:=List.mem_of_getElem? hl1
          have hidx:=hide (idx_of (unhide HND) hl1)
          have HAB2:=hide hab
          have b0:(u != 0)=true:=by simpa using h0
          have b1:(u != a)=true:=by simpa using h1
          obtain ⟨fn,tmps,assign,body,hyy,hR⟩:=unhide HY i wr u (unhide HJ) hl1
          have HR:=hide hR
          have HWU:=hide (unhide HWF u hmem)
          clear hl1 hab hua hmem HAB hR
          gi_wp2_with fail
          refine (unhide HR).mono ?_
          rintro e W2 (⟨rfl,hJ2⟩ | ⟨rfl,hS⟩)
          ·obtain ⟨_,y0,y1⟩:=unhide HA (i + 1) W2 hJ2
           have HU2:=hide (unhide HU (i + 1) W2 u hJ2 (unhide HWU))
           clear hJ2
           gi_wp2_with fail
           refine ⟨trivial,(callsIn_wide.2 (unhide HU2)).mono ?_⟩
           rintro e W3 ⟨rfl,hJ3⟩
           have HJ3:=hide hJ3
           clear hJ3
           gi_wp2_with fail
           refine ⟨⟨i + 1,u,by omega,rfl,rfl,HAB2,HJ3⟩,?_⟩
           exact mea_lt (unhide HND) hil (unhide hidx) h0 h1 (unhide HAB2)
          ·gi_wp2_with fail
           refine bodyPost_ret (results_none rfl _ _ _) rfl ?_
           exact ⟨rfl,.inr hS⟩
      exact AllReadyIn.nil
     exact AllReadyIn.nil
    exact AllReadyIn.nil
   refine AllReadyIn.cons rfl (fun K hK=>?_) ?_
   ·go_simp
    refine ⟨trivial,(callsIn_wide.2 (unhide HU1)).mono ?_⟩
    rintro e w5 ⟨rfl,hJ5⟩
    obtain ⟨_,y0,y1⟩:=unhide HA 0 w5 hJ5
    have HJ5:=hide hJ5
    clear hJ5
    refine hK _ _ ?_
    clear hK K
    refine wpAnyIn_ready (rs:=[0]) (by kernel_rfl) (by simp) ?_
    refine AllReadyIn.cons rfl (fun K hK=>?_) ?_
    ·go_simp
     refine hK _ _ ?_
     clear hK K
     refine wpAnyIn_ready (rs:=[4]) (by kernel_rfl) (by simp) ?_
     refine AllReadyIn.cons rfl (fun K hK=>?_) ?_
     ·go_simp
      refine hK _ _ ?_
      clear hK K
      refine wpAnyIn_ready (rs:=[5]) (by kernel_rfl) (by simp) ?_
      refine AllReadyIn.cons rfl (fun K hK=>?_) ?_
      ·go_simp
       refine hK _ _ ?_
       clear hK K
       refine wpAnyIn_done (by kernel_rfl) ?_ _
       gi_wp2_with fail
       gi_loopw [4,5] (fun s4 s5 wr=>∃ (i:Nat) (a:Int),i≤ls.length∧s4=.int .i64 a∧s5=.int .i64 (T.up a)∧Hid (Ab T a (ls.drop i))∧Hid (J i wr)) (fun s4 s5 _=>mea ls s4 s5)
       case atStart=>exact ⟨0,n,Nat.zero_le _,rfl,rfl,HL,HJ5⟩
       case round =>
        obtain ⟨i,a,hi,rfl,rfl,HAB,HJ⟩:=hrel
        by_cases h0:T.up a=0
        ·have hfin:i=ls.length:=(unhide HAB).fin hi (.inl h0)
         rw [h0]
         clear h0 HAB hi
         gi_wp2_with fail
         go_end0
         exact ⟨rfl,.inl (by rw [← hfin];exact unhide HJ)⟩
        ·by_cases h1:T.up a=a
         ·have hfin:i=ls.length:=(unhide HAB).fin hi (.inr h1)
          rw [h1] at h0 ⊢
          clear h1 HAB hi
          gi_wp2_with fail
          go_end0
          exact ⟨rfl,.inl (by rw [← hfin];exact unhide HJ)⟩
         ·obtain ⟨hl1,hab⟩:=(unhide HAB).next h0 h1
          generalize hua:T.up a=u at *
          have hil:=(List.getElem?_eq_some_iff.1 hl1).1
          have hmem:u ∈ ls:=List.mem_of_getElem? hl1
          have hidx:=hide (idx_of (unhide HND) hl1)
          have HAB2:=hide hab
          have b0:(u != 0)=true:=by simpa using h0
          have b1:(u != a)=true:=by simpa using h1
          obtain ⟨fn,tmps,assign,body,hyy,hR⟩:=unhide HY i wr u (unhide HJ) hl1
          have HR:=hide hR
          have HWU:=hide (unhide HWF u hmem)
          clear hl1 hab hua hmem HAB hR
          gi_wp2_with fail
          refine (unhide HR).mono ?_
          rintro e W2 (⟨rfl,hJ2⟩ | ⟨rfl,hS⟩)
          ·obtain ⟨_,y0,y1⟩:=unhide HA (i + 1) W2 hJ2
           have HU2:=hide (unhide HU (i + 1) W2 u hJ2 (unhide HWU))
           clear hJ2
           gi_wp2_with fail
           refine ⟨trivial,(callsIn_wide.2 (unhide HU2)).mono ?_⟩
           rintro e W3 ⟨rfl,hJ3⟩
           have HJ3:=hide hJ3
           clear hJ3
           gi_wp2_with fail
           refine ⟨⟨i + 1,u,by omega,rfl,rfl,HAB2,HJ3⟩,?_⟩
           exact mea_lt (unhide HND) hil (unhide hidx) h0 h1 (unhide HAB2)
          ·gi_wp2_with fail
           refine bodyPost_ret (results_none rfl _ _ _) rfl ?_
           exact ⟨rfl,.inr hS⟩
      exact AllReadyIn.nil
     exact AllReadyIn.nil
    exact AllReadyIn.nil
   exact AllReadyIn.nil
  exact AllReadyIn.nil
 exact AllReadyIn.nil
end
open Go.RowKit Go.Shelf Go.Maps
attribute [local go_sem] Oper.semAt_some
structure WJ (w W:World) (r:Loop) (h t:Nat) (n dir:Int) (ls:List Int) (i:Nat):Prop where
 l:W.heap[h + 5]?=some (.loop r)
 dd:W.heap[h + 4]?=some (.deferred (some []))
 k0:W.heap[h]?=some (.cells #[I dir] 3)
 k1:W.heap[h + 1]?=some (.cells #[.bool false] 4)
 k2:W.heap[h + 2]?=some (.cells #[P0 t] 23)
 k3:W.heap[h + 3]?=some (.cells #[I n] 3)
 be:Below h w W
 no:∀ u ∈ ls.take i,u≠dir
structure WS (w W:World) (h:Nat) (dir:Int) (ls:List Int):Prop where
 f:∃ rd:Loop,rd.state=.done∧rd.pending=some .ret∧W.heap[h + 5]?=some (.loop rd)
 dd:W.heap[h + 4]?=some (.deferred (some []))
 k1:W.heap[h + 1]?=some (.cells #[.bool true] 4)
 be:Below h w W
 yes:dir ∈ ls
theorem WJ.put {w W:World} {r r':Loop} {h t:Nat} {n dir:Int} {ls:List Int} {i j:Nat} (J:WJ w W r h t n dir ls i) (hj:∀ u ∈ ls.take j,u≠dir):WJ w (W.putObj (h + 5) (.loop r')) r' h t n dir ls j :=
 ⟨World.putObj_heap_same (lt_of_heap J.l),put_other J.l J.dd (by simp),put_other J.l J.k0 (by simp),put_other J.l J.k1 (by simp),put_other J.l J.k2 (by simp),put_other J.l J.k3 (by simp),⟨J.be.os,J.be.tape,J.be.output,by rw [World.putObj_size];exact J.be.size,fun k hk=>(World.putObj_heap_other (by omega)).trans (J.be.block k hk)⟩,hj⟩
theorem WJ.drew {w W:World} {r:Loop} {h t:Nat} {n dir:Int} {ls:List Int} {i:Nat} (J:WJ w W r h t n dir ls i) (k:Nat):WJ w (W.drewN k) r h t n dir ls i:=⟨J.l,J.dd,J.k0,J.k1,J.k2,J.k3,below_dn J.be k,J.no⟩
section
variable {lo N:Nat} {T:Tr} {q p:Nat} {nb:Int→Nat} {ev:Int→Value} {B:Nat}
theorem within_in {w:World} {t:Nat} (hT:TrI lo N w t T q p nb ev) (hw:Wk B T) (hB:B≤890) {n dir:Int} (hn:(kl n).wf=true) {ls:List Int} (hl:Ab T n ls) :
  CallsIn Fence.wide 4 Tryz.prog 20 #[P0 t,I n,I dir] w fun e w'=>e=.returned (.bool (decide (dir ∈ ls)))∧Below w.heap.size w w':=by
 have hro:Fence.wide.round=none:=rfl
 have HT:=hide hT
 have HW:=hide hw
 have HN:=hide hn
 have HL:=hide hl
 clear hT hw hn hl
 refine callsIn_of_wp_marks Tryz.func20 rfl trivial ?_ hro
 simp only [Tryz.ntmps20,List.size_toArray,List.length_cons,List.length_nil,Nat.reduceAdd,Nat.reduceSub,Array.replicate_succ,Array.replicate_zero,List.push_toArray,List.append_toArray,List.nil_append,List.cons_append]
 gi_wp2_with fail
 refine ⟨trivial,(callsIn_wide.2 (above_any t n _)).mono ?_⟩
 rintro e w' ⟨rfl,rfl⟩
 gi_wp2_with fail
 obtain ⟨V,hV,hsz,g0,g1,g2,g3,hBV⟩:=four0 w (.cells #[I dir] 3) (.cells #[.bool false] 4) (.cells #[P0 t] 23) (.cells #[I n] 3)
 rw [hV]
 clear hV
 generalize hh:w.heap.size=h at *
 have HH:Hid (w.heap.size=h):=hh
 refine wpIn_range_ret hro (by omega) (gf:=142) (lb:=#[.pointer (some ⟨h + 3,0,none⟩),.pointer (some ⟨h + 2,0,none⟩)]) rfl trivial (enters_of Tryz.func142 (by kernel_rfl) rfl) ?_
 intro r hF hst hpe htm hps has hbo
 obtain ⟨L1,D1,hB2⟩:=setup V r
 rw [hsz] at L1 D1 ⊢
 generalize ((V.alloc (.deferred (some []))).alloc (.loop r))=W1 at L1 D1 hB2 ⊢
 have J0:WJ w W1 r h t n dir ls 0:=⟨L1,D1,(hB2.block _ (by omega)).trans g0,(hB2.block _ (by omega)).trans g1,(hB2.block _ (by omega)).trans g2,(hB2.block _ (by omega)).trans g3,hBV.trans (hB2.mono (by omega)),by simp⟩
 clear L1 D1 hB2 g0 g1 g2 g3 hBV
 refine (above_iter (unhide HT) (unhide HW) hB (h + 5) (h + 3) (h + 2) n (unhide HN) ls (unhide HL) W1 (fun i W=>WJ w W r h t n dir ls i) (fun W=>WS w W h dir ls) J0 (fun i W' J=>⟨by rw [unhide HH];exact J.be,by rw [cell_of J.k3];rfl,by rw [cell_of J.k2];rfl⟩) (fun i W' k J=>J.drew k) ?_).mono ?_
 ·intro i W2 u J hu
  refine yield_ret hF hst hpe htm hps has hbo rfl J.l ?_
  clear htm hps has hbo hst hpe J0
  intro rb
  gi_wp2
  refine ⟨J.l,?_⟩
  have J4:=J.put (r':=rb) J.no
  generalize W2.putObj (h + 5) (.loop rb)=W4 at *
  have i0:W4.cell? ⟨h,0,none⟩=some (I dir):=by rw [cell_of J4.k0];rfl
  have i1:W4.cell? ⟨h + 1,0,none⟩=some (.bool false):=by rw [cell_of J4.k1];rfl
  have i1f:W4.frozen? ⟨h + 1,0,none⟩=false:=frozen_of J4.k1 0
  by_cases he:u=dir
  ·subst he
   have FIN:Hid ((W4.setCell ⟨h + 1,0,none⟩ (.bool true)).heap[h + 5]?=some (.loop rb)∧WS w ((W4.setCell ⟨h + 1,0,none⟩ (.bool true)).putObj (h + 5) (.loop { rb with state:=.done,pending:=some .ret })) h u ls):=by
    have kp:∀ {k:Nat} {o:Obj},W4.heap[k]?=some o→k≠h + 1→(W4.setCell ⟨h + 1,0,none⟩ (.bool true)).heap[k]?=some o:=fun h1 h2=>(Below.heap_setCell _ _ _ _ h2).trans h1
    have l5:=kp J4.l (by omega)
    have q1:(W4.setCell ⟨h + 1,0,none⟩ (.bool true)).heap[h + 1]?=some (.cells #[.bool true] 4):=by
     rw [heap_set J4.k1];simp
    have b5:=J4.be.setCell (p:=⟨h + 1,0,none⟩) (by simp) (.bool true)
    exact ⟨l5,⟨_,rfl,rfl,World.putObj_heap_same (lt_of_heap l5)⟩,put_other l5 (kp J4.dd (by omega)) (by simp),put_other l5 q1 (by simp),⟨b5.os,b5.tape,b5.output,by rw [World.putObj_size];exact b5.size,fun k hk=>(World.putObj_heap_other (by omega)).trans (b5.block k hk)⟩,List.mem_of_getElem? hu⟩
   clear J J4 hu
   gi_wp2_with fail
   exact unhide FIN
  ·have hb:(u == dir)=false:=by simpa using he
   have HJ:=hide (show WJ w (W4.putObj (h + 5) (.loop r)) r h t n dir ls (i + 1) from J4.put (by
    intro x hx
    rw [List.take_add_one,hu] at hx
    rcases List.mem_append.1 hx with hx | hx
    ·exact J4.no x hx
    ·simp at hx;subst hx;exact he))
   have HL4:=hide J4.l
   clear J J4 hu he
   gi_wp2_with fail
   exact ⟨unhide HL4,unhide HJ⟩
 ·rintro e W2 ⟨rfl,J | J⟩
  ·refine ⟨⟨_,rfl⟩,.inl ⟨J.l,?_⟩⟩
   have J6:=J.put (r':={ r with state:=.exhausted }) J.no
   generalize W2.putObj (h + 5) (.loop { r with state:=.exhausted })=W3 at J6 ⊢
   have i1:W3.cell? ⟨h + 1,0,none⟩=some (.bool false):=by rw [cell_of J6.k1];rfl
   have i1f:W3.frozen? ⟨h + 1,0,none⟩=false:=frozen_of J6.k1 0
   have HJ:=hide J6
   clear J J0 J6 htm hps has hbo hst hpe
   gi_wp2_with fail
   have dd5:(W3.setCell ⟨h + 1,0,none⟩ (.bool false)).heap[h + 4]?=some (.deferred (some [])):=(Below.heap_setCell _ _ _ _ (by simp)).trans (unhide HJ).dd
   refine ⟨by simp,.inl ⟨_,_,rfl,run_takeDeferred dd5,?_⟩⟩
   have hb:=(unhide HJ).be.setCell (p:=⟨h + 1,0,none⟩) (by simp) (.bool false)
   have be7:Below h w ((W3.setCell ⟨h + 1,0,none⟩ (.bool false)).putObj (h + 4) (.deferred none)):=⟨hb.os,hb.tape,hb.output,by rw [World.putObj_size];exact hb.size,fun k hk=>(World.putObj_heap_other (by omega)).trans (hb.block k hk)⟩
   have q7:((W3.setCell ⟨h + 1,0,none⟩ (.bool false)).putObj (h + 4) (.deferred none)).heap[h + 1]?=some (.cells #[.bool false] 4):=by
    rw [World.putObj_heap_other (by omega),heap_set (unhide HJ).k1];simp
   have z7:((W3.setCell ⟨h + 1,0,none⟩ (.bool false)).putObj (h + 4) (.deferred none)).cell? ⟨h + 1,0,none⟩=some (.bool false):=by rw [cell_of q7];rfl
   have hno:decide (dir ∈ ls)=false:=by
    rw [decide_eq_false_iff_not]
    intro hm
    exact (unhide HJ).no dir (by rw [List.take_length];exact hm) rfl
   rw [unhide HH,hno]
   exact ⟨_,by simp [results,Tryz.results20,go_sem,z7],rfl,be7⟩
  ·obtain ⟨rd,hd1,hd2,l5⟩:=J.f
   refine ⟨⟨_,rfl⟩,.inr ⟨rd,hd1,hd2,l5,?_⟩⟩
   have k6:=put_other (r':={ rd with state:=.exhausted }) l5 J.k1 (by simp)
   have d6:=put_other (r':={ rd with state:=.exhausted }) l5 J.dd (by simp)
   have b6:Below h w (W2.putObj (h + 5) (.loop { rd with state:=.exhausted })):=⟨J.be.os,J.be.tape,J.be.output,by rw [World.putObj_size];exact J.be.size,fun k hk=>(World.putObj_heap_other (by omega)).trans (J.be.block k hk)⟩
   generalize W2.putObj (h + 5) (.loop { rd with state:=.exhausted })=W3 at *
   have HK:=hide k6
   have HD6:=hide d6
   have HB6:=hide b6
   have HY:=hide J.yes
   clear J J0 k6 d6 b6 htm hps has hbo hst hpe l5
   gi_wp2_with fail
   refine ⟨by simp,.inl ⟨_,_,rfl,run_takeDeferred (unhide HD6),?_⟩⟩
   have hb:=unhide HB6
   have be7:Below h w (W3.putObj (h + 4) (.deferred none)):=⟨hb.os,hb.tape,hb.output,by rw [World.putObj_size];exact hb.size,fun k hk=>(World.putObj_heap_other (by omega)).trans (hb.block k hk)⟩
   have q7:(W3.putObj (h + 4) (.deferred none)).heap[h + 1]?=_:=(World.putObj_heap_other (by omega)).trans (unhide HK)
   have z7:(W3.putObj (h + 4) (.deferred none)).cell? ⟨h + 1,0,none⟩=some (.bool true):=by rw [cell_of q7];rfl
   have hyes:decide (dir ∈ ls)=true:=decide_eq_true (unhide HY)
   rw [unhide HH,hyes]
   exact ⟨_,by simp [results,Tryz.results20,go_sem,z7],rfl,be7⟩
theorem twithin_any {w:World} {t:Nat} (hT:TrI lo N w t T q p nb ev) (hw:Wk B T) (hB:B≤890) {n dir:Int} (hn:(kl n).wf=true) {ls:List Int} (hl:Ab T n ls) :
  Calls Tryz.prog 20 #[P0 t,I n,I dir] w fun e w'=>e=.returned (.bool (decide (dir ∈ ls)))∧Below w.heap.size w w':=callsIn_wide.1 (within_in hT hw hB hn hl)
end
end Go.Proofs.YtlngeaacjbdmhaaGreat
