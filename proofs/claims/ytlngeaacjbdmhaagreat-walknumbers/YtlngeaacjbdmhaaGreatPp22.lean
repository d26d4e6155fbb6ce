/-
 The document's own tree: a row without one of its names,laid anew;out.
-/
import Derived.Test.YtlngeaacjbdmhaaGreatPp21
import Derived.Deep.RegionHeld3
import Derived.Test.YtlngeaacjbdmhaaGreatPp15
set_option maxRecDepth 100000
set_option maxHeartbeats 4000000
namespace Go.Proofs.YtlngeaacjbdmhaaGreat.Rf
open Go.RowKit Go.Maps
attribute [local go_sem ↓] Go.wp_at_zero Go.wp_at_succ
theorem step_app_eq {P:Program} {w:World} {ops:Array Oper} {o:Oper} {a:Act} {K:Act→World→Prop} {Q:Exit→Act→World→Prop} {E:Prop} (hgd:o.guard=none) (s x:Operand) (t:TypeId)
  (ho:o.op=.call { callee:=.builtin .append,args:=#[s,x],argTypes:=#[t,t] }) (ty:TypeId) (hty:o.type=ty) (vs vx:Value) (hs:a.eval s=vs) (hx:a.eval x=vx) (v':Value) (w':World)
  (hrun:(Builtin.append_ #[t,t] ty #[vs,vx]).run P w=.ok v' w') (h:K (a.put o.dst v') w') :
  if Region.wanted o (yielded ops a.tmps)=true then Oper.wp P o a w K Q else E:=by
 have hw:Region.wanted o (yielded ops a.tmps)=true:=by simp [Region.wanted,hgd]
 rw [if_pos hw]
 unfold Oper.wp execOp
 simp only [ho,resolve,invoke,builtin,Sem.run_bind,Sem.run_pure,Result.andThen_ok,List.map_toArray,List.map_cons,List.map_nil,hs,hx,hty,hrun]
 exact h
section
variable {lo N:Nat} {W W':World} {r:Nat} {T:Tr} {p:Nat} {Lv:Value} {nb:Int→Nat} {ev:Int→Value} {uv:Int→Int} {B:Nat}
theorem erase_run (V:World) (g cap l k:Nat) (es:Ents) (hO:V.ownsRow lo 218 2 (.slice (some ⟨g,0,none⟩) l cap) l (rowsOf row es)) (hl:es.length=l) (hk:k < l) (h64:l≤1000) (p2:Addr) (hp:k + 1 < l→p2=⟨g,(k + 1) * 2,none⟩) :
  ∃ (v1 v2:Value) (W1 W2:World),
   (Builtin.append_ #[137,137] 137 #[.slice (some ⟨V.heap.size,0,none⟩) 0 0,.slice (some ⟨g,0,none⟩) k cap]).run Tryz.prog (V.alloc (.cells #[] 218)).drew=.ok v1 W1 ∧
   (Builtin.append_ #[137,137] 137 #[v1,.slice (some p2) (l - (k + 1)) (cap - (k + 1))]).run Tryz.prog W1=.ok v2 W2 ∧
   Dr V.heap.size W2 v2 (es.take k ++ es.drop (k + 1))∧Below V.heap.size V W2∧Below V.heap.size V W1:=by
 obtain ⟨i0,hi,hz0,hz1,hz2⟩:=info_parts infoRE
 obtain ⟨g',cap',cur,e1,-,hgg,-,-,-,hce⟩:=own_open hO (by omega)
 simp only [Value.slice.injEq,Option.some.injEq,Addr.mk.injEq] at e1
 obtain ⟨⟨rfl,-,-⟩,-,rfl⟩:=e1
 have hg:=lt_of_heap hgg
 have own0:(V.alloc (.cells #[] 218)).drew.ownsRow V.heap.size 218 2 (.slice (some ⟨V.heap.size,0,none⟩) 0 0) 0 [] :=
  ⟨rfl,.inr ⟨V.heap.size,0,#[],rfl,Nat.le_refl _,putAll (w:=V) (.cells #[] 218) V.heap.size rfl,Nat.le_refl _,by unfold maxLen;omega,rfl,rfl⟩⟩
 have hB0:Below V.heap.size V (V.alloc (.cells #[] 218)).drew:=((Below.refl _ V).alloc (Nat.le_refl _) _).drew
 obtain ⟨v1,W1,r1,own1,gr1,-,at1⟩:=run_append_own_at (P:=Tryz.prog) (V.alloc (.cells #[] 218)).drew V.heap.size 137 137 218 i0 (.agg #[.string ByteArray.empty,.int .i64 0]) 2 24 Tryz.underlying137 hi hz0 hz1 hz2 rfl (by decide) _ 0 [] own0 ⟨g,0,none⟩ k cap (rowsOf row (es.take k))
  (by rw [rows_len];simp;omega)
  (by
   intro j u hj
   rw [addr0,Nat.zero_add]
   refine (hB0.cell (p:=⟨g,j,none⟩) hg).trans (hce j u ?_)
   have hj2:=(List.getElem?_eq_some_iff.1 hj).1
   rw [rows_take] at hj hj2
   rwa [List.getElem?_take_of_lt (by simp at hj2;omega)] at hj)
  (rows_one _) (by unfold maxLen;omega) (by omega) (by simp)
 have hs1:V.heap.size < W1.heap.size:=by have:=gr1.size;simp at this;omega
 have hB1:Below V.heap.size V W1:=by
  refine hB0.trans ⟨gr1.os,gr1.tape,gr1.output,gr1.size,fun j hj=>gr1.block j (by simp;omega) ?_⟩
  simp only [Value.ownBlock,ne_eq,Option.some.injEq];omega
 have hb1:∀ j,v1.ownBlock=some j→V.heap.size≤j:=by
  intro j hj
  rcases at1 with e | e <;> rw [e] at hj <;> simp [Value.ownBlock] at hj <;> omega
 obtain ⟨v2,W2,r2,own2,gr2,-,at2⟩:=run_append_own_at (P:=Tryz.prog) W1 V.heap.size 137 137 218 i0 (.agg #[.string ByteArray.empty,.int .i64 0]) 2 24 Tryz.underlying137 hi hz0 hz1 hz2 rfl (by decide) v1 _ _ own1 p2 (l - (k + 1)) (cap - (k + 1)) (rowsOf row (es.drop (k + 1)))
  (by rw [rows_len];simp;omega)
  (by
   intro j u hj
   have hj2:=(List.getElem?_eq_some_iff.1 hj).1
   have hkl:k + 1 < l:=by rw [rows_len] at hj2;simp at hj2;omega
   rw [hp hkl,addr0]
   refine (hB1.cell (p:=⟨g,(k + 1) * 2 + j,none⟩) hg).trans (hce _ u ?_)
   rw [rows_drop,List.getElem?_drop] at hj
   exact hj)
  (rows_one _) (by unfold maxLen;omega) (by omega) (by omega)
 refine ⟨v1,v2,W1,W2,r1,r2,?_,?_,hB1⟩
 ·unfold Dr
  have e1:(es.take k ++ es.drop (k + 1)).length=0 + k + (l - (k + 1)):=by simp;omega
  rw [e1,rowsOf_append]
  simpa using own2
 ·refine hB1.trans ⟨gr2.os,gr2.tape,gr2.output,gr2.size,fun j hj=>gr2.block j (by omega) ?_⟩
  intro e
  have:=hb1 j e.symm
  omega
def Outd (lo N:Nat) (W W':World) (r:Nat) (T:Tr) (p:Nat) (Lv:Value) (nb:Int→Nat) (uv:Int→Int) (dir:Int) (s:ByteArray) (n:Int) (y:Nd):Prop :=
 ∃ ev',DtI lo N W' r (T.take dir s) p Lv nb ev' (fun k=>if k=n then (if y.kind=1 then n else uv n) else uv k)∧Rx lo W W'
theorem out_end (h:DtI lo N W r T p Lv nb ev uv) (hw:Wk B T) (hB:B≤890) {dir n:Int} {s:ByteArray} {x y:Nd} (hx:T.nd dir=some x) (hy:T.nd n=some y) (hne:dir≠n) (hn1:n≠1) (hs:getE x.ins s=some n) (hnm:1≤y.names) (hp:T.pool.fs.length≤1000000) {V:World} {v2:Value} (F:Fr [nb dir] W V)
  (hb:V.heap[nb dir]?=some (.cells (dnC dir { x with ins:=delE x.ins s } (uv dir) v2) 139)) (hr:Dr lo V v2 (delE x.ins s)) :
  ∃ X,V.setCell ⟨nb n,10,none⟩ (I ((y.names:Int) - 1))=X∧Hid (Calls Tryz.prog 82 #[P0 r,I n] V fun e w'=>e=.returned (P0 (nb n))∧w'=V) ∧
  V.cell? ⟨nb n,10,none⟩=some (I (y.names:Int))∧V.frozen? ⟨nb n,10,none⟩=false∧X.cell? ⟨nb n,1,none⟩=some (I y.kind)∧X.cell? ⟨nb n,9,none⟩=some (I (uv n))∧X.frozen? ⟨nb n,9,none⟩=false ∧
  Hid (y.kind≠1→Calls Tryz.prog 135 #[P0 r,I n] X fun e w'=>e=.returned (.tuple #[])∧Outd lo N W w' r T p Lv nb uv dir s n y) ∧
  Hid (y.kind=1→Calls Tryz.prog 135 #[P0 r,I n] (X.setCell ⟨nb n,9,none⟩ (I n)) fun e w'=>e=.returned (.tuple #[])∧Outd lo N W w' r T p Lv nb uv dir s n y):=by
 obtain ⟨h1,R1⟩:=h.turn (y:={ x with ins:=delE x.ins s }) hx F hb hr
 have hy1:(T.set dir (some { x with ins:=delE x.ins s })).nd n=some y:=by rw [Tr.set_other _ _ (fun e=>hne e.symm)];exact hy
 have hbn:=(h1.hn n y hy1).1
 have hro:=(h1.hn n y hy1).2
 simp only [if_neg (fun e=>hne e.symm:¬ n=dir)] at hbn hro
 obtain ⟨-,-,-,-,-,-,-,-,-,-,d10,-,-,df⟩:=dcells hbn
 have hq:nm1 n y=(y.names:Int):=by simp [nm1,hn1]
 rw [hq] at d10
 have g1:=heap_set hbn 10 (I ((y.names:Int) - 1))
 have hk:=hw.key n y hy
 have hT:T.take dir s=((T.set dir (some { x with ins:=delE x.ins s })).set n (some { y with names:=y.names - 1 })).leave n:=by
  unfold Tr.take
  rw [hx]
  simp only [hs]
  unfold Tr.less
  rw [hy1]
 have hnm2:nm1 n { y with names:=y.names - 1 }=(y.names:Int) - 1:=by simp [nm1,hn1];omega
 have hF1:Fr [nb n] V (V.setCell ⟨nb n,10,none⟩ (I ((y.names:Int) - 1))):=(Fr.refl [nb n] V).set (a:=⟨nb n,10,none⟩) (by simp) _
 have huv:∀ u,(fun k=>if k=n then u else (if k=dir then uv dir else uv k))=(fun k=>if k=n then u else uv k):=fun u=>by
  funext k
  by_cases e:k=n
  ·simp [e]
  ·by_cases e2:k=dir
   ·subst e2;simp
   ·simp [e,e2]
 have hkp:∀ V',Fr [nb n] V V'→Dr lo V' (ev n) y.ins:=fun V' F'=>hro.keep fun b cur e=>F'.blk b (lt_of_heap e) (by
  simp
  rintro rfl
  rw [hbn] at e
  simp at e)
 have hbb:=hw.bnd n y hy
 have hff:=hw.fil n y hy
 have hmd:=hw.made
 have hk2:n≤(((T.set dir (some { x with ins:=delE x.ins s })).set n (some { y with names:=y.names - 1 })).made:Int):=by simpa [Tr.set] using hk.2
 have hm2:((T.set dir (some { x with ins:=delE x.ins s })).set n (some { y with names:=y.names - 1 })).made≤900:=by simp [Tr.set];omega
 refine ⟨_,rfl,hide (at_some h1 hy1 hk.1 (by simpa [Tr.set] using hk.2) (by simp [Tr.set];omega)),d10,df 10,by rw [cell_of g1];simp [dnC],by rw [cell_of g1];simp [dnC],frozen_of g1 9,hide fun hkd=>?_,hide fun hkd=>?_⟩
 ·obtain ⟨h2,R2⟩:=h1.turn (y:={ y with names:=y.names - 1 }) (u:=uv n) (v:=ev n) hy1 hF1 (by rw [g1,← hnm2];simp [dnC]) (hkp _ hF1)
  rw [huv] at h2
  refine (reap_any h2 (Tr.set_same _ _ _) hk.1 hk2 hm2 (fun e=>absurd e hn1) ⟨by simp;omega,by simp;omega⟩ ⟨hff.1,by simp;omega,hff.2.2⟩ hp).mono ?_
  rintro e w' ⟨rfl,h3,R3⟩
  refine ⟨rfl,?_⟩
  unfold Outd
  rw [hT]
  simp only [if_neg hkd]
  exact ⟨_,h3,(R1.trans R2).trans R3⟩
 ·have g2:=heap_set g1 9 (I n)
  have hF2:=hF1.set (a:=⟨nb n,9,none⟩) (by simp) (I n)
  obtain ⟨h2,R2⟩:=h1.turn (y:={ y with names:=y.names - 1 }) (u:=n) (v:=ev n) hy1 hF2 (by rw [g2,← hnm2];simp [dnC]) (hkp _ hF2)
  rw [huv] at h2
  refine (reap_any h2 (Tr.set_same _ _ _) hk.1 hk2 hm2 (fun e=>absurd e hn1) ⟨by simp;omega,by simp;omega⟩ ⟨hff.1,by simp;omega,hff.2.2⟩ hp).mono ?_
  rintro e w' ⟨rfl,h3,R3⟩
  refine ⟨rfl,?_⟩
  unfold Outd
  rw [hT]
  simp only [if_pos hkd]
  exact ⟨_,h3,(R1.trans R2).trans R3⟩
end
open Go.RowKit Go.Maps
attribute [local go_sem ↓] Go.wp_at_zero Go.wp_at_succ
section
variable {lo N:Nat} {W W':World} {r:Nat} {T:Tr} {p:Nat} {Lv:Value} {nb:Int→Nat} {ev:Int→Value} {uv:Int→Int} {B:Nat}
theorem out_any (h:DtI lo N W r T p Lv nb ev uv) (hw:Wk B T) (hB:B≤890) (dir n:Int) (s:ByteArray) (x y:Nd) (hx:T.nd dir=some x) (hy:T.nd n=some y) (hne:dir≠n) (hn1:n≠1) (hs:getE x.ins s=some n) (hnm:1≤y.names) (hp:T.pool.fs.length≤1000000) (hd:(kl dir).wf=true) :
  Calls Tryz.prog 132 #[P0 r,I dir,.string s] W fun e w'=>e=.returned (.tuple #[])∧Outd lo N W w' r T p Lv nb uv dir s n y:=by
 have HA:=hide (at_any h hw (by omega) dir hd (P0 (nb dir)) (by rw [atV,hx]))
 obtain ⟨hb,hr⟩:=h.hn dir x hx
 have hl:=(hw.bnd dir x hx).2.2
 have hsr:=hw.srt dir x hx
 have hat:=(hsr.at_pos s).2 n hs
 obtain ⟨k,hk⟩:∃ k,k=pos x.ins s:=⟨_,rfl⟩
 rw [← hk] at hat
 have hkl:=(List.getElem?_eq_some_iff.1 hat).1
 have HFi:=hide (find_any hb hr hsr (by omega) s (k:Int) (idx_at hsr hat).1)
 obtain ⟨-,-,-,-,-,-,-,-,c8,-,-,-,-,-⟩:=dcells hb
 obtain ⟨g,cap,cur,hev,hgb,hgg,hcap,hcm,-,hce⟩:=own_open hr (by omega)
 rw [hev] at hr c8
 obtain ⟨-,q1⟩:=rows_at x.ins k s n hat
 have c1:=hce _ _ q1
 have hlt:=lt_of_heap hb
 have hcm2:cap≤9223372036854775807:=by unfold maxLen at hcm;omega
 obtain ⟨p2,hp2⟩:∃ p2:Addr,(if cap=k + 1 then some (⟨g,0,none⟩:Addr) else some ⟨g,(k + 1) * 2,none⟩)=some p2:=by
  by_cases hc:cap=k + 1
  ·exact ⟨⟨g,0,none⟩,by simp [hc]⟩
  ·exact ⟨⟨g,(k + 1) * 2,none⟩,by simp [hc]⟩
 obtain ⟨v1,v2,W1,W2,r1,r2,own3,bl2,bl1⟩:=erase_run W g cap x.ins.length k x.ins hr rfl hkl (by omega) p2 (by
  intro hlt
  by_cases hc:cap=k + 1
  ·omega
  ·simp [hc] at hp2;exact hp2.symm)
 have hdel:x.ins.take k ++ x.ins.drop (k + 1)=delE x.ins s:=by rw [hk];rfl
 rw [hdel] at own3
 have yb:=(bl2.block (nb dir) hlt).trans hb
 have hb3:=heap_set yb 8 v2
 have hFY:Fr [nb dir] W (W2.setCell ⟨nb dir,8,none⟩ v2):=(Fr.of_below bl2).set (a:=⟨nb dir,8,none⟩) (by simp) _
 have hlo:=h.bd.2.1
 obtain ⟨Y,hY⟩:∃ Y,W2.setCell ⟨nb dir,8,none⟩ v2=Y:=⟨_,rfl⟩
 rw [hY] at hb3 hFY
 obtain ⟨X,hX,HC,t10,tf10,t1,t9,tf9,E1,E2⟩:=out_end (s:=s) (V:=Y) (v2:=v2) h hw hB hx hy hne hn1 hs hnm hp hFY (by rw [hb3];simp [dnC,nm1]) (own_base (own3.keep fun j cu e=>by
  rw [← hY]
  exact Below.heap_setCell _ _ _ _ (by
   rintro rfl
   rw [yb] at e
   simp at e)) hlo)
 have d1:W1.cell? ⟨nb dir,8,none⟩=some (.slice (some ⟨g,0,none⟩) x.ins.length cap):=(World.cell?_of_block (a:=⟨nb dir,8,none⟩) (bl1.block _ hlt)).trans c8
 have z0:W2.cell? ⟨nb dir,8,none⟩=some (.slice (some ⟨g,0,none⟩) x.ins.length cap):=(World.cell?_of_block (a:=⟨nb dir,8,none⟩) (bl2.block _ hlt)).trans c8
 have zf:W2.frozen? ⟨nb dir,8,none⟩=false:=frozen_of yb 8
 have dx:(W.alloc (.cells #[] 218)).cell? ⟨nb dir,8,none⟩=some (.slice (some ⟨g,0,none⟩) x.ins.length cap):=(World.cell?_alloc_past _ _ _ hlt).trans c8
 obtain ⟨a2,cp2,hv2⟩:=own_form own3
 subst hv2
 have tb:(y.names:Int)≤900:=by have:=(hw.bnd n y hy).1;omega
 have tb2:(1:Int)≤(y.names:Int):=by omega
 have hle:x.ins.length≤900:=by omega
 clear h hw hx hy own3 hb3 hFY hb hr hev hgg hce q1 yb bl1 bl2 hdel hs hat hsr hlo hp hnm hk hcm hl
 generalize nb dir=b at *
 generalize nb n=c at *
 generalize (y.names:Int)=q at *
 generalize (delE x.ins s).length=m2 at *
 generalize x.ins.length=ml at *
 have j0:(0:Int)≤(k:Int):=by omega
 have j1:(k:Int) < (ml:Int):=by omega
 have j2:((k:Int) < 0)=False:=by simp
 have j4:k≤cap:=by omega
 go_enter Tryz.func132,Tryz.ntmps132
 go_wp2_with fail
 refine (unhide HA).mono ?_
 rintro e w1 ⟨rfl,hw1⟩
 rw [hw1]
 clear hw1
 go_wp2_with fail
 refine (unhide HFi).mono ?_
 rintro e w2 ⟨rfl,hw1⟩
 rw [hw1]
 clear hw1
 go_wp2_with fail
 generalize hK1:k + 1=K1 at *
 have HK1:=hide hK1
 have e1:(k:Int) + 1=(K1:Int):=by omega
 have e2:IntKind.i64.wrap ((k:Int) + 1)=(K1:Int):=by rw [e1,IntKind.wrap_i64];omega
 have e3:IntKind.i64.wrap (K1:Int)=(K1:Int):=by rw [IntKind.wrap_i64];omega
 have n0:(k:Int)≤(cap:Int):=by omega
 have n2:(0:Int)≤(K1:Int):=by omega
 have n3:(K1:Int)≤(ml:Int):=by omega
 have n4:(ml:Int)≤(cap:Int):=by omega
 clear hK1 c1
 by_cases hlc2:cap=K1
 ·rw [if_pos hlc2] at hp2
  simp only [Option.some.injEq] at hp2
  subst hp2
  obtain rfl:ml=K1:=by omega
  subst hlc2
  simp only [Nat.sub_self] at r2
  go_region_law (first
    | (refine step_app_eq (by rfl) _ _ 137 (by rfl) 137 (by rfl) _ _ (by simp [Act.eval,Act.put]) (by simp [Act.eval,Act.put]) _ _ r1 ?_)
    | (refine step_app_eq (by rfl) _ _ 137 (by rfl) 137 (by rfl) _ _ (by simp [Act.eval,Act.put]) (by simp [Act.eval,Act.put]) _ _ r2 ?_))
  all_goals
   go_wp2_with fail
   refine (unhide HC).mono ?_
   rintro e w3 ⟨rfl,hw3⟩
   rw [hw3]
   clear hw3
   by_cases hkd:y.kind=1
   ·rw [hkd] at t1
    go_wp2_with fail
    refine (unhide E2 hkd).mono ?_
    rintro e w4 ⟨rfl,hO⟩
    go_wp2_with fail
    go_end0
    exact ⟨rfl,hO⟩
   ·have hkb:(y.kind == 1)=false:=by simpa using hkd
    go_wp2_with fail
    refine (unhide E1 hkd).mono ?_
    rintro e w4 ⟨rfl,hO⟩
    go_wp2_with fail
    go_end0
    exact ⟨rfl,hO⟩
 ·rw [if_neg hlc2] at hp2
  simp only [Option.some.injEq] at hp2
  subst hp2
  have hlc3:¬ K1=cap:=fun e=>hlc2 e.symm
  go_region_law (first
    | (refine step_app_eq (by rfl) _ _ 137 (by rfl) 137 (by rfl) _ _ (by simp [Act.eval,Act.put]) (by simp [Act.eval,Act.put]) _ _ r1 ?_)
    | (refine step_app_eq (by rfl) _ _ 137 (by rfl) 137 (by rfl) _ _ (by simp [Act.eval,Act.put]) (by simp [Act.eval,Act.put]) _ _ r2 ?_))
  all_goals
   go_wp2_with fail
   refine (unhide HC).mono ?_
   rintro e w3 ⟨rfl,hw3⟩
   rw [hw3]
   clear hw3
   by_cases hkd:y.kind=1
   ·rw [hkd] at t1
    go_wp2_with fail
    refine (unhide E2 hkd).mono ?_
    rintro e w4 ⟨rfl,hO⟩
    go_wp2_with fail
    go_end0
    exact ⟨rfl,hO⟩
   ·have hkb:(y.kind == 1)=false:=by simpa using hkd
    go_wp2_with fail
    refine (unhide E1 hkd).mono ?_
    rintro e w4 ⟨rfl,hO⟩
    go_wp2_with fail
    go_end0
    exact ⟨rfl,hO⟩
end
open Go.RowKit Go.Maps
attribute [local go_sem ↓] Go.wp_at_zero Go.wp_at_succ
section
variable {lo N:Nat} {W W':World} {r:Nat} {T:Tr} {p:Nat} {Lv:Value} {nb:Int→Nat} {ev:Int→Value} {uv:Int→Int} {B:Nat}
def upV (T:Tr) (uv:Int→Int) (n:Int):Int:=match T.dir n with | some _=>uv n | none=>0
theorem dUp_any (h:DtI lo N W r T p Lv nb ev uv) (hw:Wk B T) (hB:B≤900) (n:Int) (hn:(kl n).wf=true) :
  Calls Tryz.prog 90 #[P0 r,I n] W fun e w'=>e=.returned (I (upV T uv n))∧w'=W:=by
 cases hx:T.dir n with
 | none =>
  have e:upV T uv n=0:=by simp [upV,hx]
  rw [e]
  have HA:=hide (dir_any h hw hB n hn (.pointer none) (by rw [dirV,hx]))
  clear h hw hx e
  go_enter Tryz.func90,Tryz.ntmps90
  go_wp2_with fail
  refine (unhide HA).mono ?_
  rintro e w1 ⟨rfl,rfl⟩
  go_wp2_with fail
  go_ret
  exact ⟨rfl,rfl⟩
 | some x =>
  have e:upV T uv n=uv n:=by simp [upV,hx]
  rw [e]
  have HA:=hide (dir_any h hw hB n hn (P0 (nb n)) (by rw [dirV,hx]))
  obtain ⟨-,-,-,-,-,-,-,-,-,c9,-⟩:=dcells (h.hn n x (Tr.dir_some.1 hx).1).1
  generalize nb n=b at *
  generalize uv n=u at *
  clear h hw hx e
  go_enter Tryz.func90,Tryz.ntmps90
  go_wp2_with fail
  refine (unhide HA).mono ?_
  rintro e w1 ⟨rfl,rfl⟩
  go_wp2_with fail
  go_ret
  exact ⟨rfl,rfl⟩
theorem dText_any (h:DtI lo N W r T p Lv nb ev uv) (hw:Wk B T) (hB:B≤900) (n:Int) (hn:(kl n).wf=true) :
  Calls Tryz.prog 91 #[P0 r,I n] W fun e w'=>e=.returned (.string (T.textOf n))∧w'=W:=by
 cases hx:T.nd n with
 | none =>
  have e:T.textOf n=⟨#[]⟩:=by simp [Tr.textOf,hx]
  rw [e]
  have HA:=hide (at_any h hw hB n hn (.pointer none) (by rw [atV,hx]))
  clear h hw hx e
  go_enter Tryz.func91,Tryz.ntmps91
  go_wp2_with fail
  refine (unhide HA).mono ?_
  rintro e w1 ⟨rfl,rfl⟩
  go_wp2_with fail
  go_ret
  exact ⟨rfl,rfl⟩
 | some x =>
  have e:T.textOf n=x.text:=by simp [Tr.textOf,hx]
  rw [e]
  have HA:=hide (at_any h hw hB n hn (P0 (nb n)) (by rw [atV,hx]))
  obtain ⟨-,-,-,-,-,-,-,c7,-⟩:=dcells (h.hn n x hx).1
  generalize nb n=b at *
  clear h hw hx e
  go_enter Tryz.func91,Tryz.ntmps91
  go_wp2_with fail
  refine (unhide HA).mono ?_
  rintro e w1 ⟨rfl,rfl⟩
  go_wp2_with fail
  go_ret
  exact ⟨rfl,rfl⟩
end
open Go.RowKit Go.Maps
attribute [local go_sem ↓] Go.wp_at_zero Go.wp_at_succ
theorem inf3:(Tryz.prog.info? 3).map (fun i=>(i.zero,i.size,i.bytes))=some (some (.int .i64 0),1,8):=by kernel_rfl
def lvs (T:Tr) (j:Nat):List Int:=((List.range j).filter fun i:Nat=>(T.nd ((i:Int) + 1)).isSome).map fun i:Nat=>(i:Int) + 1
theorem lvs_yes {T:Tr} {k:Nat} (h:(T.nd ((k:Int) + 1)).isSome=true):lvs T (k + 1)=lvs T k ++ [(k:Int) + 1]:=by
 rw [lvs,lvs,List.range_succ,List.filter_append,List.map_append]
 simp [h]
theorem lvs_no {T:Tr} {k:Nat} (h:(T.nd ((k:Int) + 1)).isSome=false):lvs T (k + 1)=lvs T k:=by
 rw [lvs,lvs,List.range_succ,List.filter_append,List.map_append]
 simp [h]
theorem lvs_len (T:Tr) (k:Nat):(lvs T k).length≤k:=by
 have:=List.length_filter_le (fun i=>(T.nd (((i:Nat):Int) + 1)).isSome) (List.range k)
 simp [lvs] at this ⊢
 omega
theorem lvs_cnt {B:Nat} {T:Tr} (hw:Wk B T):∀ k,(lvs T k).length=cnt (k + 1) fun i=>(T.nd (i:Int)).isSome
 | 0=>by
  have:T.nd ((0:Nat):Int)=none:=by
   cases h:T.nd ((0:Nat):Int) with
   | none=>rfl
   | some x=>have:=hw.key _ x h;omega
  rw [cnt_succ,this]
  simp [lvs,cnt]
 | k + 1=>by
  rw [cnt_succ,← lvs_cnt hw k]
  cases h:(T.nd ((k:Int) + 1)).isSome with
  | true=>rw [lvs_yes h];simp [h]
  | false=>rw [lvs_no h];simp [h]
theorem lvs_live {B:Nat} {T:Tr} (hw:Wk B T):(lvs T T.made).length=T.live:=lvs_cnt hw T.made
section
variable {lo N:Nat} {W W':World} {r:Nat} {T:Tr} {p:Nat} {Lv:Value} {nb:Int→Nat} {ev:Int→Value} {uv:Int→Int} {B:Nat}
theorem dLive_any (h:DtI lo N W r T p Lv nb ev uv) (hm:T.made≤900) :
  Calls Tryz.prog 85 #[P0 r] W fun e w'=>∃ v,e=.returned v∧w'.ownsRow W.heap.size 3 1 v (lvs T T.made).length ((lvs T T.made).map I)∧Below W.heap.size W w':=by
 obtain ⟨i0,hi,hz0,hz1,hz2⟩:=info_parts inf3
 obtain ⟨-,-,c2,-⟩:=h.cells
 have hlt:=lt_of_heap h.ht
 obtain ⟨M,hM⟩:∃ M,M=T.made:=⟨_,rfl⟩
 have hc:∃ a cap,Lv=.slice a M cap∧∀ k,k < M→∃ g,a=some ⟨g,0,none⟩∧g < W.heap.size∧W.cell? ⟨g,k,none⟩=some (ptrV T nb k):=by
  obtain ⟨a,cap,hLv⟩:=own_form h.hL
  refine ⟨a,cap,by rw [hLv,hM],fun k hk=>?_⟩
  obtain ⟨g,cap',cur,e1,-,hg,-,-,-,hcell⟩:=own_open h.hL (by omega)
  rw [hLv] at e1
  simp only [Value.slice.injEq] at e1
  exact ⟨g,e1.1,lt_of_heap hg,hcell k _ (dptrs_get T nb (by omega))⟩
 obtain ⟨a,cap,rfl,hc⟩:=hc
 rw [← hM] at hm ⊢
 have HC:=hide hc
 clear h hM hc
 go_enter Tryz.func85,Tryz.ntmps85
 go_wp2_with fail
 go_loopw [3,4] (fun vo v wr=>∃ k:Nat,v=I k∧k≤M∧wr.ownsRow W.heap.size 3 1 vo (lvs T k).length ((lvs T k).map I)∧Below W.heap.size W wr) (fun _ v _=>M - (intOf v).toNat)
 case atStart=>exact ⟨0,rfl,by omega,by simp [lvs];exact World.ownsRow_nil _ _ _ _,Below.refl _ _⟩
 case round =>
  obtain ⟨k,rfl,hk,own,hbr⟩:=hrel
  have b2:wr.cell? ⟨r,2,none⟩=some (.slice a M cap):=(World.cell?_of_block (a:=⟨r,2,none⟩) (hbr.block r hlt)).trans c2
  have hs4:=hbr.size
  by_cases hkn:k < M
  ·obtain ⟨g,rfl,hgl,hcl⟩:=unhide HC k hkn
   have bc:wr.cell? ⟨g,k,none⟩=some (ptrV T nb k):=(World.cell?_of_block (a:=⟨g,k,none⟩) (hbr.block g hgl)).trans hcl
   have j1:(k:Int) < (M:Int):=by omega
   have j0:(0:Int)≤(k:Int):=by omega
   have j9:(k:Int)≤900:=by omega
   have hil:=lvs_len T k
   cases hP:(T.nd ((k:Int) + 1)).isSome with
   | true =>
    have own5:=own_keep (W':=wr.alloc (.cells #[I ((k:Int) + 1)] 3)) own (fun k cur hc=>Below.heap_alloc wr _ _ (lt_of_heap hc))
    obtain ⟨v',W5,hrun,own6,hgr,-,-⟩:=run_append_own_at (P:=Tryz.prog) (wr.alloc (.cells #[I ((k:Int) + 1)] 3)) W.heap.size 72 72 3 i0 (I 0) 1 8 Tryz.underlying72 hi hz0 hz1 hz2 rfl (by decide) _ _ _ own5 ⟨wr.heap.size,0,none⟩ 1 1 [I ((k:Int) + 1)] rfl (cell_one_new wr _ _) (by intro u hu;simp at hu;subst hu;rfl) (by unfold maxLen;omega) (by omega) (by simp;omega)
    have hb5:=below_grown (hbr.alloc hbr.size _) own5 hgr (by simp;omega)
    have HREL:=hide (⟨k + 1,by go_num,by omega,by rw [lvs_yes hP,List.length_append,List.map_append];simpa using own6,hb5⟩:∃ k':Nat,I ((k:Int) + 1)=I (k':Int)∧k'≤M∧W5.ownsRow W.heap.size 3 1 v' (lvs T k').length ((lvs T k').map I)∧Below W.heap.size W W5)
    obtain ⟨q',cp,rfl⟩:=own_form own6
    rw [ptrV,if_pos hP] at bc
    clear own own5 own6 hgr hb5 hil hcl
    go_wp2_with (at_builtin;refine wpList_append_eq rfl _ _ 72 rfl 72 rfl _ _ rfl rfl _ _ hrun ?_)
    go_roundw
    case rel=>exact unhide HREL
    case measure=>simp [intOf];omega
   | false =>
    have HREL:=hide (⟨k + 1,by go_num,by omega,by rw [lvs_no hP];exact own,hbr⟩:∃ k':Nat,I ((k:Int) + 1)=I (k':Int)∧k'≤M∧wr.ownsRow W.heap.size 3 1 _ (lvs T k').length ((lvs T k').map I)∧Below W.heap.size W wr)
    rw [ptrV,if_neg (by simp [hP])] at bc
    clear own hil hcl
    go_wp2_with fail
    go_roundw
    case rel=>exact unhide HREL
    case measure=>simp [intOf];omega
  ·obtain rfl:k=M:=by omega
   have HO:=hide own
   have HB:=hide hbr
   clear own hbr
   go_wp2_with fail
   go_ret
   exact ⟨_,rfl,unhide HO,unhide HB⟩
theorem dLeft_any (h:DtI lo N W r T p Lv nb ev uv) (hw:Wk B T) (hB:B≤900) (hM:T.most≤100000) :
  Calls Tryz.prog 87 #[P0 r] W fun e w'=>e=.returned (I T.left)∧Below W.heap.size W w':=by
 obtain ⟨c0,-⟩:=h.cells
 have hlt:=lt_of_heap h.ht
 have hmd:=hw.made
 have HL:Hid (Calls Tryz.prog 85 #[P0 r] W.drew fun e w'=>∃ a cap,e=.returned (.slice a (lvs T T.made).length cap)∧w'.cell? ⟨r,0,none⟩=some (I (T.most:Int))∧Hid (Below W.heap.size W w')):=by
  refine hide ((dLive_any (h.below (W':=W.drew) (below_drew (Below.refl _ W))) (by omega)).mono ?_)
  rintro e w1 ⟨v,rfl,own,hb⟩
  obtain ⟨a,cap,rfl⟩:=own_form own
  have hb2:Below W.heap.size W w1:=(below_drew (Below.refl _ W)).trans hb
  exact ⟨a,cap,rfl,(World.cell?_of_block (a:=⟨r,0,none⟩) (hb2.block r hlt)).trans c0,hide hb2⟩
 have hll:=lvs_live hw
 have hln:=lvs_len T T.made
 rw [Tr.left,← hll]
 generalize (lvs T T.made).length=L at *
 generalize T.most=Mo at *
 have k1:(L:Int)≤900:=by omega
 have k2:(Mo:Int)≤100000:=by omega
 have k3:IntKind.i64.wrap ((Mo:Int) - (L:Int))=(Mo:Int) - (L:Int):=by rw [IntKind.wrap_i64];omega
 clear h hw hll
 go_enter Tryz.func87,Tryz.ntmps87
 go_wp2_with fail
 go_region_held3 (fun w'=>w'.cell? ⟨r,0,none⟩=some (I (Mo:Int))) (go_keep) ((go_at_call 85;refine (unhide HL).mono ?_;rintro e w2 ⟨a,cap,rfl,q0,HB⟩))
 go_wp2_with fail
 go_ret
 exact ⟨rfl,unhide HB⟩
end
end Go.Proofs.YtlngeaacjbdmhaaGreat.Rf
namespace Go.Proofs.YtlngeaacjbdmhaaGreat.Nm
open Go.RowKit
attribute [local go_sem ↓] Go.wp_at_zero Go.wp_at_succ
theorem rdots_any (l:List UInt8) (w:World):Calls Tryz.prog 214 #[S l] w fun e w'=>e=.returned (.bool (dots l))∧w'=w:=by
 go_enter Tryz.func214,Tryz.ntmps214
 go_wp2
 all_goals (go_ret;refine ⟨?_,rfl⟩;simp_all [dots])
theorem take_mem {l:List UInt8} {k:Nat} (h:k < l.length) (c:UInt8):c ∈ l.take (k + 1) ↔ c ∈ l.take k ∨ c=l[k]:=by
 rw [List.take_add_one,List.getElem?_eq_getElem h,List.mem_append]
 simp
theorem byte_is {c d:UInt8} (n:Nat) (hn:d.toNat=n) (h:c=d):c.toNat=n∧(c.toNat:Int)=(n:Int):=by subst h;subst hn;exact ⟨rfl,rfl⟩
theorem byte_not {c d:UInt8} (n:Nat) (hn:d.toNat=n) (h:¬ c=d):¬ c.toNat=n∧¬ (c.toNat:Int)=(n:Int):=by
 subst hn
 have h1:¬ c.toNat=d.toNat:=fun e=>h (UInt8.toNat_inj.1 e)
 exact ⟨h1,by omega⟩
theorem is0 {c:UInt8} (h:c=0):c.toNat=0∧(c.toNat:Int)=0:=byte_is 0 rfl h
theorem is47 {c:UInt8} (h:c=47):c.toNat=47∧(c.toNat:Int)=47:=byte_is 47 rfl h
theorem not0 {c:UInt8} (h:¬ c=0):¬ c.toNat=0∧¬ (c.toNat:Int)=0:=byte_not 0 rfl h
theorem not47 {c:UInt8} (h:¬ c=47):¬ c.toNat=47∧¬ (c.toNat:Int)=47:=byte_not 47 rfl h
theorem rright_any (l:List UInt8) (hl:l.length≤100000) (w:World):Calls Tryz.prog 126 #[S l] w fun e w'=>e=.returned (.bool (right l))∧w'=w:=by
 go_enter Tryz.func126,Tryz.ntmps126
 go_wp2_with fail
 go_loopw [3] (fun i wr=>∃ k:Nat,k≤l.length∧i=.int .i64 k∧(0:UInt8) ∉ l.take k∧(47:UInt8) ∉ l.take k∧wr=w) (fun i _=>l.length - (intOf i).toNat)
 case atStart=>exact ⟨0,by omega,rfl,by simp,by simp,rfl⟩
 case round =>
  obtain ⟨k,hk,rfl,n0,n1,rfl⟩:=hrel
  by_cases hlt:k < l.length
  ·have j0:(0:Int)≤(k:Int):=by omega
   have j1:(k:Int) < (l.length:Int):=by omega
   have r0:l[k] ∈ l:=List.getElem_mem hlt
   have hkb:k < (bs l).size:=hlt
   have t0:=take_mem hlt 0
   have t1:=take_mem hlt 47
   by_cases c0:l[k]=0
   ·have hr:right l=false:=by simp [right,show (0:UInt8) ∈ l by rw [← c0];exact r0]
    replace hr:=hide hr
    obtain ⟨d1,d2⟩:=is0 (show (bs l)[k]=0 from c0)
    clear t0 t1 n0 n1 r0
    go_wp2_with fail
    all_goals (go_ret;exact ⟨by rw [unhide hr];rfl,rfl⟩)
   ·obtain ⟨d1,d2⟩:=not0 (show ¬ (bs l)[k]=0 from c0)
    by_cases c1:l[k]=47
    ·have hr:right l=false:=by simp [right,show (47:UInt8) ∈ l by rw [← c1];exact r0]
     replace hr:=hide hr
     obtain ⟨d3,d4⟩:=is47 (show (bs l)[k]=47 from c1)
     clear t0 t1 n0 n1 r0
     go_wp2_with fail
     all_goals (go_ret;exact ⟨by rw [unhide hr];rfl,rfl⟩)
    ·obtain ⟨d3,d4⟩:=not47 (show ¬ (bs l)[k]=47 from c1)
     have m0:Hid ((0:UInt8) ∉ l.take (k + 1)):=hide (by rw [t0];rintro (h | h);exact n0 h;exact c0 h.symm)
     have m1:Hid ((47:UInt8) ∉ l.take (k + 1)):=hide (by rw [t1];rintro (h | h);exact n1 h;exact c1 h.symm)
     clear t0 t1 n0 n1 r0
     have d5:(((bs l)[k].toNat:Int) == 0)=false:=by simpa using d2
     have d6:(((bs l)[k].toNat:Int) == 47)=false:=by simpa using d4
     go_wp2_with fail
     exact ⟨⟨k + 1,by omega,rfl,unhide m0,unhide m1,trivial⟩,by simp [intOf];omega⟩
  ·obtain rfl:k=l.length:=by omega
   rw [List.take_length] at n0 n1
   have j1:¬ ((l.length:Nat):Int) < (l.length:Int):=by omega
   have hr:right l=(decide (1≤(l.length:Int)) && decide ((l.length:Int)≤255) && !dots l):=by
    unfold right
    cases l with
    | nil=>simp
    | cons c r =>
     simp only [List.isEmpty_cons,Bool.false_or,n0,n1,decide_false,Bool.not_false,Bool.and_true,Bool.not_or,List.length_cons]
     congr 1
     have e1:(1:Int)≤((r.length + 1:Nat):Int):=by omega
     simp only [e1,decide_true,Bool.true_and]
     by_cases h:r.length + 1≤255
     ·have h2:((r.length + 1:Nat):Int)≤255:=by omega
      have h3:¬ 255 < r.length + 1:=by omega
      simp only [h2,h3,decide_true,decide_false,Bool.not_false]
     ·have h2:¬ ((r.length + 1:Nat):Int)≤255:=by omega
      have h3:255 < r.length + 1:=by omega
      simp only [h2,h3,decide_true,decide_false,Bool.not_true]
   replace hr:=hide hr
   clear n0 n1
   go_wp2_with (go_at_call 214;refine (rdots_any _ _).mono ?_;rintro e w' ⟨rfl,rfl⟩)
   all_goals (go_ret;refine ⟨?_,rfl⟩;rw [unhide hr];simp_all;try (intros;omega))
end Go.Proofs.YtlngeaacjbdmhaaGreat.Nm
namespace Go.Proofs.YtlngeaacjbdmhaaGreat.Rf
open Go.RowKit Go.Maps
attribute [local go_sem ↓] Go.wp_at_zero Go.wp_at_succ
theorem r7_any (s:ByteArray) (hs:s.size≤100000) (w:World):Calls Tryz.prog 126 #[.string s] w fun e w'=>e=.returned (.bool (right s))∧w'=w:=Nm.rright_any s.data.toList hs w
def Ds (lo N:Nat) (W W':World) (r:Nat) (T:Tr) (p:Nat) (Lv:Value) (nb:Int→Nat) (uv:Int→Int):Prop:=∃ ev',DtI lo N W' r T p Lv nb ev' uv∧Rx lo W W'
section
variable {lo N:Nat} {W W':World} {r:Nat} {T:Tr} {p:Nat} {Lv:Value} {nb:Int→Nat} {ev:Int→Value} {uv:Int→Int} {B:Nat}
theorem DtI.ds (h:DtI lo N W r T p Lv nb ev uv):Ds lo N W W r T p Lv nb uv:=⟨ev,h,Rx.refl h.bd.2.1⟩
theorem dJoin_any (h:DtI lo N W r T p Lv nb ev uv) (hw:Wk B T) (hB:B≤890) (dir n:Int) (s:ByteArray) (hd:(kl dir).wf=true) (hn:(kl n).wf=true) (hs:s.size≤100000) (h16:∀ y,T.nd n=some y→y.kind≠1→y.names≤16) (hroot:∀ y,T.nd 1=some y→y.kind=1) :
  Calls Tryz.prog 67 #[P0 r,I dir,.string s,I n] W fun e w'=>e=.returned (I (T.joinE dir s n))∧Ds lo N W w' r (T.join dir s n) p Lv nb uv:=by
 have HR:=hide h.ds
 have HQ:=hide (r7_any s hs W)
 obtain ⟨vd,hvd⟩:∃ v,dirV T nb dir=v:=⟨_,rfl⟩
 obtain ⟨vn,hvn⟩:∃ v,atV T nb n=v:=⟨_,rfl⟩
 have HD:=hide (dir_any h hw (by omega) dir hd vd hvd)
 have HA:=hide (at_any h hw (by omega) n hn vn hvn)
 unfold Tr.join
 cases hx:T.dir dir with
 | none =>
  have e1:T.joinE dir s n=1:=by simp [Tr.joinE,hx]
  rw [e1,if_neg (by decide)]
  rw [dirV,hx] at hvd
  subst hvd
  clear h hw e1
  go_enter Tryz.func67,Tryz.ntmps67
  go_wp2_with (first
   | (go_at_call 81;refine (unhide HD).mono ?_;rintro e w1 ⟨rfl,hw1⟩;rw [hw1];clear hw1)
   | (go_at_call 82;refine (unhide HA).mono ?_;rintro e w1 ⟨rfl,hw1⟩;rw [hw1];clear hw1)
   | (go_at_call 126;refine (unhide HQ).mono ?_;rintro e w1 ⟨rfl,hw1⟩;rw [hw1];clear hw1)
   | (go_at_call 127;refine (unhide HFi).mono ?_;rintro e w1 ⟨rfl,hw1⟩;rw [hw1];clear hw1)
   | (go_at_call 128;refine (unhide HG).mono ?_;rintro e w1 ⟨rfl,hw1⟩;rw [hw1];clear hw1)
   | (go_at_call 131;refine (unhide HP).mono ?_;rintro e w1 ⟨rfl,hO⟩))
  go_ret
  exact ⟨rfl,unhide HR⟩
 | some x =>
  rw [dirV,hx] at hvd
  subst hvd
  have hxn:=(Tr.dir_some.1 hx).1
  have hxk:=(Tr.dir_some.1 hx).2
  cases hy:T.nd n with
  | none =>
   have e1:T.joinE dir s n=1:=by simp [Tr.joinE,hx,hy]
   rw [e1,if_neg (by decide)]
   rw [atV,hy] at hvn
   subst hvn
   clear h hw e1
   go_enter Tryz.func67,Tryz.ntmps67
   go_wp2_with (first
    | (go_at_call 81;refine (unhide HD).mono ?_;rintro e w1 ⟨rfl,hw1⟩;rw [hw1];clear hw1)
    | (go_at_call 82;refine (unhide HA).mono ?_;rintro e w1 ⟨rfl,hw1⟩;rw [hw1];clear hw1)
    | (go_at_call 126;refine (unhide HQ).mono ?_;rintro e w1 ⟨rfl,hw1⟩;rw [hw1];clear hw1)
    | (go_at_call 127;refine (unhide HFi).mono ?_;rintro e w1 ⟨rfl,hw1⟩;rw [hw1];clear hw1)
    | (go_at_call 128;refine (unhide HG).mono ?_;rintro e w1 ⟨rfl,hw1⟩;rw [hw1];clear hw1)
    | (go_at_call 131;refine (unhide HP).mono ?_;rintro e w1 ⟨rfl,hO⟩))
   go_ret
   exact ⟨rfl,unhide HR⟩
  | some y =>
   rw [atV,hy] at hvn
   subst hvn
   obtain ⟨-,c1,-,-,-,-,-,-,-,-,c10,-⟩:=dcells (h.hn n y hy).1
   cases hrs:right s with
   | false =>
    have e1:T.joinE dir s n=1:=by simp [Tr.joinE,hx,hy,hrs]
    rw [e1,if_neg (by decide)]
    rw [hrs] at HQ
    clear h hw e1
    go_enter Tryz.func67,Tryz.ntmps67
    go_wp2_with (first
     | (go_at_call 81;refine (unhide HD).mono ?_;rintro e w1 ⟨rfl,hw1⟩;rw [hw1];clear hw1)
     | (go_at_call 82;refine (unhide HA).mono ?_;rintro e w1 ⟨rfl,hw1⟩;rw [hw1];clear hw1)
     | (go_at_call 126;refine (unhide HQ).mono ?_;rintro e w1 ⟨rfl,hw1⟩;rw [hw1];clear hw1)
     | (go_at_call 127;refine (unhide HFi).mono ?_;rintro e w1 ⟨rfl,hw1⟩;rw [hw1];clear hw1)
     | (go_at_call 128;refine (unhide HG).mono ?_;rintro e w1 ⟨rfl,hw1⟩;rw [hw1];clear hw1)
     | (go_at_call 131;refine (unhide HP).mono ?_;rintro e w1 ⟨rfl,hO⟩))
    go_ret
    exact ⟨rfl,unhide HR⟩
   | true =>
    rw [hrs] at HQ
    by_cases hk:y.kind=1
    ·have e1:T.joinE dir s n=1:=by simp [Tr.joinE,hx,hy,hrs,hk]
     rw [e1,if_neg (by decide)]
     rw [hk] at c1
     clear h hw e1
     go_enter Tryz.func67,Tryz.ntmps67
     go_wp2_with (first
      | (go_at_call 81;refine (unhide HD).mono ?_;rintro e w1 ⟨rfl,hw1⟩;rw [hw1];clear hw1)
      | (go_at_call 82;refine (unhide HA).mono ?_;rintro e w1 ⟨rfl,hw1⟩;rw [hw1];clear hw1)
      | (go_at_call 126;refine (unhide HQ).mono ?_;rintro e w1 ⟨rfl,hw1⟩;rw [hw1];clear hw1)
      | (go_at_call 127;refine (unhide HFi).mono ?_;rintro e w1 ⟨rfl,hw1⟩;rw [hw1];clear hw1)
      | (go_at_call 128;refine (unhide HG).mono ?_;rintro e w1 ⟨rfl,hw1⟩;rw [hw1];clear hw1)
      | (go_at_call 131;refine (unhide HP).mono ?_;rintro e w1 ⟨rfl,hO⟩))
     go_ret
     exact ⟨rfl,unhide HR⟩
    ·have hkb:(y.kind == 1)=false:=by simpa using hk
     have hne:dir≠n:=by
      rintro rfl
      rw [hxn] at hy
      cases hy
      exact hk hxk
     have hl:=(hw.bnd dir x hxn).2.2
     cases hg:getE x.ins s with
     | some q =>
      have e1:T.joinE dir s n=35:=by simp [Tr.joinE,hx,hy,hrs,hk,refusesE,hg]
      rw [e1,if_neg (by decide)]
      have HFi:=hide (find_any (h.hn dir x hxn).1 (h.hn dir x hxn).2 (hw.srt dir x hxn) (by omega) s (pos x.ins s:Int) (by rw [idx,hg]))
      generalize pos x.ins s=ps at *
      have g0:(0:Int)≤(ps:Int):=by omega
      clear h hw e1
      go_enter Tryz.func67,Tryz.ntmps67
      go_wp2_with (first
       | (go_at_call 81;refine (unhide HD).mono ?_;rintro e w1 ⟨rfl,hw1⟩;rw [hw1];clear hw1)
       | (go_at_call 82;refine (unhide HA).mono ?_;rintro e w1 ⟨rfl,hw1⟩;rw [hw1];clear hw1)
       | (go_at_call 126;refine (unhide HQ).mono ?_;rintro e w1 ⟨rfl,hw1⟩;rw [hw1];clear hw1)
       | (go_at_call 127;refine (unhide HFi).mono ?_;rintro e w1 ⟨rfl,hw1⟩;rw [hw1];clear hw1)
       | (go_at_call 128;refine (unhide HG).mono ?_;rintro e w1 ⟨rfl,hw1⟩;rw [hw1];clear hw1)
       | (go_at_call 131;refine (unhide HP).mono ?_;rintro e w1 ⟨rfl,hO⟩))
      go_ret
      exact ⟨rfl,unhide HR⟩
     | none =>
      have HFi:=hide (find_any (h.hn dir x hxn).1 (h.hn dir x hxn).2 (hw.srt dir x hxn) (by omega) s (-1) (by rw [idx,hg]))
      by_cases hnm:x.names=0
      ·have e1:T.joinE dir s n=32:=by simp [Tr.joinE,hx,hy,hrs,hk,refusesE,hg,hnm]
       rw [e1,if_neg (by decide)]
       have HG:=hide (gone_any h hw (by omega) hd hxn true (by simp [hnm]))
       clear h hw e1
       go_enter Tryz.func67,Tryz.ntmps67
       go_wp2_with (first
        | (go_at_call 81;refine (unhide HD).mono ?_;rintro e w1 ⟨rfl,hw1⟩;rw [hw1];clear hw1)
        | (go_at_call 82;refine (unhide HA).mono ?_;rintro e w1 ⟨rfl,hw1⟩;rw [hw1];clear hw1)
        | (go_at_call 126;refine (unhide HQ).mono ?_;rintro e w1 ⟨rfl,hw1⟩;rw [hw1];clear hw1)
        | (go_at_call 127;refine (unhide HFi).mono ?_;rintro e w1 ⟨rfl,hw1⟩;rw [hw1];clear hw1)
        | (go_at_call 128;refine (unhide HG).mono ?_;rintro e w1 ⟨rfl,hw1⟩;rw [hw1];clear hw1)
        | (go_at_call 131;refine (unhide HP).mono ?_;rintro e w1 ⟨rfl,hO⟩))
       go_ret
       exact ⟨rfl,unhide HR⟩
      ·have HG:=hide (gone_any h hw (by omega) hd hxn false (by simp [hnm]))
       have hq:nm1 n y=(y.names:Int):=by
        have:n≠1:=fun e=>hk (hroot y (by rw [← e];exact hy))
        simp [nm1,this]
       rw [hq] at c10
       have hb16:=h16 y hy hk
       have hlk:T.links y=y.names:=by simp [Tr.links,hk]
       by_cases hm:y.names=16
       ·have e1:T.joinE dir s n=44:=by simp [Tr.joinE,hx,hy,hrs,hk,refusesE,hg,hnm,hlk,hm]
        rw [e1,if_neg (by decide)]
        have c10':W.cell? ⟨nb n,10,none⟩=some (I 16):=by rw [c10,hm];rfl
        clear c10
        clear h hw e1
        go_enter Tryz.func67,Tryz.ntmps67
        go_wp2_with (first
         | (go_at_call 81;refine (unhide HD).mono ?_;rintro e w1 ⟨rfl,hw1⟩;rw [hw1];clear hw1)
         | (go_at_call 82;refine (unhide HA).mono ?_;rintro e w1 ⟨rfl,hw1⟩;rw [hw1];clear hw1)
         | (go_at_call 126;refine (unhide HQ).mono ?_;rintro e w1 ⟨rfl,hw1⟩;rw [hw1];clear hw1)
         | (go_at_call 127;refine (unhide HFi).mono ?_;rintro e w1 ⟨rfl,hw1⟩;rw [hw1];clear hw1)
         | (go_at_call 128;refine (unhide HG).mono ?_;rintro e w1 ⟨rfl,hw1⟩;rw [hw1];clear hw1)
         | (go_at_call 131;refine (unhide HP).mono ?_;rintro e w1 ⟨rfl,hO⟩))
        go_ret
        exact ⟨rfl,unhide HR⟩
       ·have e1:T.joinE dir s n=0:=by simp [Tr.joinE,hx,hy,hrs,hk,refusesE,hg,hnm,hlk,hm]
        rw [e1,if_pos rfl]
        have g16:¬ (16:Int)≤(y.names:Int):=by omega
        have HP:Hid (Calls Tryz.prog 131 #[P0 r,I dir,.string s,I n] W fun e w'=>e=.returned (.tuple #[])∧Ds lo N W w' r (T.give dir s n) p Lv nb uv):=by
         refine hide ((put_any h hw hB dir n s x y hxn hy hne hg hd).mono ?_)
         rintro e w1 ⟨h1,ev',h2,R2⟩
         refine ⟨h1,ev',?_,R2⟩
         simp only [if_neg hk] at h2
         rw [uv_same] at h2
         exact h2
        generalize (y.names:Int)=q at *
        clear h hw e1
        go_enter Tryz.func67,Tryz.ntmps67
        go_wp2_with (first
         | (go_at_call 81;refine (unhide HD).mono ?_;rintro e w1 ⟨rfl,hw1⟩;rw [hw1];clear hw1)
         | (go_at_call 82;refine (unhide HA).mono ?_;rintro e w1 ⟨rfl,hw1⟩;rw [hw1];clear hw1)
         | (go_at_call 126;refine (unhide HQ).mono ?_;rintro e w1 ⟨rfl,hw1⟩;rw [hw1];clear hw1)
         | (go_at_call 127;refine (unhide HFi).mono ?_;rintro e w1 ⟨rfl,hw1⟩;rw [hw1];clear hw1)
         | (go_at_call 128;refine (unhide HG).mono ?_;rintro e w1 ⟨rfl,hw1⟩;rw [hw1];clear hw1)
         | (go_at_call 131;refine (unhide HP).mono ?_;rintro e w1 ⟨rfl,hO⟩))
        go_ret
        exact ⟨rfl,hO⟩
end
open Go.RowKit Go.Maps
attribute [local go_sem ↓] Go.wp_at_zero Go.wp_at_succ
def Uq (T:Tr) (uv:Int→Int):Prop:=∀ k x,T.dir k=some x→uv k=T.up k
def Dq (lo N:Nat) (W:World) (r:Nat) (T:Tr):Prop:=∃ p Lv nb ev uv,DtI lo N W r T p Lv nb ev uv∧Uq T uv
def De (lo N:Nat) (W W':World) (r:Nat) (T:Tr):Prop:=Dq lo N W' r T∧Rx lo W W'
section
variable {lo N:Nat} {W W':World} {r:Nat} {T:Tr} {p:Nat} {Lv:Value} {nb:Int→Nat} {ev:Int→Value} {uv:Int→Int} {B:Nat}
theorem Uq.take (hu:Uq T uv) (hw:Wf B T) {dir n:Int} {d y:Nd} {s:ByteArray} (hd:T.nd dir=some d) (hg:getE d.ins s=some n) (hx:T.nd n=some y) (hi:y.ins=[]):Uq (T.take dir s) (fun k=>if k=n then (if y.kind=1 then n else uv n) else uv k):=by
 have hdn:dir≠n:=by
  rintro rfl
  exact hw.noself hd (getE_some hg)
 obtain ⟨-,h2,-⟩:=hw.take hd hg hx hi
 have hnd:=Tr.take_nd hd hg hx hdn
 intro k x hk
 obtain ⟨k1,k2⟩:=Tr.dir_some.1 hk
 by_cases e:k=n
 ·subst e
  have h3:=hnd k
  rw [if_pos rfl,k1] at h3
  simp only [if_pos]
  split at h3
  ·cases h3
   have hyk:y.kind=1:=k2
   have:=hw.one k y hx hyk
   rw [if_pos hyk,Tr.up,hk]
   dsimp only
   rw [if_pos (by omega)]
  ·cases h3
 ·simp only [if_neg e]
  rw [h2 k e]
  have h3:=hnd k
  rw [if_neg e,k1] at h3
  by_cases e2:k=dir
  ·subst e2
   rw [if_pos rfl] at h3
   cases h3
   exact hu k d (Tr.dir_some.2 ⟨hd,k2⟩)
  ·rw [if_neg e2] at h3
   exact hu k x (Tr.dir_some.2 ⟨h3.symm,k2⟩)
theorem dPart_any (hq:Dq lo N W r T) (hw:Wf B T) (hB:B≤890) (dir:Int) (s:ByteArray) (hd:(kl dir).wf=true) :
  Calls Tryz.prog 68 #[P0 r,I dir,.string s] W fun e w'=>e=.returned (I (T.partE dir s))∧De lo N W w' r (T.part dir s):=by
 obtain ⟨p,Lv,nb,ev,uv,h,hu⟩:=hq
 have HR:Hid (∀ k,De lo N W (W.drewN k) r T):=hide fun k=>⟨⟨p,Lv,nb,ev,uv,h.below (below_n W k),hu⟩,Rx.of_below (below_n W k) h.bd.2.1⟩
 obtain ⟨vd,hvd⟩:∃ v,dirV T nb dir=v:=⟨_,rfl⟩
 have HD:=hide (dir_any h hw.k (by omega) dir hd vd hvd)
 obtain ⟨x0,hx0⟩:∃ x0,(T.findN dir s).getD 0=x0:=⟨_,rfl⟩
 obtain ⟨f,hf⟩:∃ f,(T.findN dir s).isSome=f:=⟨_,rfl⟩
 have HF:=hide (dFind_any h hw.k (by omega) dir hd s x0 f hx0 hf)
 unfold Tr.part
 cases hx:T.dir dir with
 | none =>
  have e1:T.partE dir s=1:=by simp [Tr.partE,hx]
  rw [e1,if_neg (by decide)]
  rw [dirV,hx] at hvd
  subst hvd
  clear h hw e1 HF
  go_enter Tryz.func68,Tryz.ntmps68
  go_wp2_with (first
   | (go_at_call 81;refine (unhide HD).mono ?_;rintro e w1 ⟨rfl,hw1⟩;rw [hw1];clear hw1)
   | (go_at_call 93;refine (unhide HF).mono ?_;rintro e w1 ⟨rfl,dk,hw1⟩;rw [hw1];clear hw1)
   | (go_at_call 82;refine (unhide HA dk).mono ?_;rintro e w1 ⟨rfl,hw1⟩;rw [hw1];clear hw1)
   | (go_at_call 132;refine (unhide HP dk).mono ?_;rintro e w1 ⟨rfl,hO⟩))
  go_ret
  exact ⟨rfl,unhide HR 0⟩
 | some x =>
  rw [dirV,hx] at hvd
  subst hvd
  have hxn:=(Tr.dir_some.1 hx).1
  cases hg:getE x.ins s with
  | none =>
   have e1:T.partE dir s=32:=by simp [Tr.partE,hx,hg]
   rw [e1,if_neg (by decide)]
   have e2:T.findN dir s=none:=by simp [Tr.findN,hx,hg]
   rw [e2] at hf hx0
   subst hf
   clear h hw e1 e2
   go_enter Tryz.func68,Tryz.ntmps68
   go_wp2_with (first
    | (go_at_call 81;refine (unhide HD).mono ?_;rintro e w1 ⟨rfl,hw1⟩;rw [hw1];clear hw1)
    | (go_at_call 93;refine (unhide HF).mono ?_;rintro e w1 ⟨rfl,dk,hw1⟩;rw [hw1];clear hw1)
    | (go_at_call 82;refine (unhide HA dk).mono ?_;rintro e w1 ⟨rfl,hw1⟩;rw [hw1];clear hw1)
    | (go_at_call 132;refine (unhide HP dk).mono ?_;rintro e w1 ⟨rfl,hO⟩))
   go_ret
   exact ⟨rfl,unhide HR dk⟩
  | some n =>
   have e2:T.findN dir s=some n:=by simp [Tr.findN,hx,hg]
   rw [e2] at hf hx0
   subst hf
   obtain rfl:n=x0:=hx0
   obtain ⟨y,hy⟩:=hw.k.ent hxn (getE_some hg)
   have hn:=hw.k.wf (by omega) hy
   have HA:=hide (fun k=>at_any (h.below (below_n W k)) hw.k (by omega) n hn (P0 (nb n)) (by rw [atV,hy]))
   obtain ⟨hbn,hro⟩:=h.hn n y hy
   obtain ⟨-,-,-,-,-,-,-,-,c8,-⟩:=dcells hbn
   obtain ⟨a,cap,hev⟩:=own_form hro
   rw [hev] at c8
   have hl:=(hw.k.bnd n y hy).2.2
   by_cases hi:0 < y.ins.length
   ·have e1:T.partE dir s=47:=by simp only [Tr.partE,hx,hg,Tr.insOf,hy];rw [if_pos hi]
    rw [e1,if_neg (by decide)]
    generalize y.ins.length=L at *
    have g1:(0:Int) < (L:Int):=by omega
    have g2:(L:Int)≤900:=by omega
    clear h hw e1 hbn hro hev
    go_enter Tryz.func68,Tryz.ntmps68
    go_wp2_with (first
     | (go_at_call 81;refine (unhide HD).mono ?_;rintro e w1 ⟨rfl,hw1⟩;rw [hw1];clear hw1)
     | (go_at_call 93;refine (unhide HF).mono ?_;rintro e w1 ⟨rfl,dk,hw1⟩;rw [hw1];clear hw1)
     | (go_at_call 82;refine (unhide HA dk).mono ?_;rintro e w1 ⟨rfl,hw1⟩;rw [hw1];clear hw1)
     | (go_at_call 132;refine (unhide HP dk).mono ?_;rintro e w1 ⟨rfl,hO⟩))
    go_ret
    exact ⟨rfl,unhide HR dk⟩
   ·have hi0:y.ins=[]:=by
     cases hh:y.ins with
     | nil=>rfl
     | cons _ _=>rw [hh] at hi;simp at hi
    have e1:T.partE dir s=0:=by simp [Tr.partE,hx,hg,Tr.insOf,hy,hi0]
    rw [e1,if_pos rfl]
    have hne:dir≠n:=by
     rintro rfl
     exact hw.noself hxn (getE_some hg)
    have hn1:n≠1:=by
     rintro rfl
     exact hw.noroot hxn (getE_some hg)
    have hnm:1≤y.names:=by
     have:=hw.k.num n y hy
     have:=cntE_pos hw.k hxn (getE_some hg)
     simp at this
     omega
    have hpl:=hw.k.pol
    have HP:Hid (∀ k,Calls Tryz.prog 132 #[P0 r,I dir,.string s] (W.drewN k) fun e w'=>e=.returned (.tuple #[])∧De lo N W w' r (T.take dir s)):=by
     refine hide fun k=>(out_any (h.below (below_n W k)) hw.k hB dir n s x y hxn hy hne hn1 hg hnm (by omega) hd).mono ?_
     rintro e w1 ⟨h1,ev',h2,R2⟩
     exact ⟨h1,⟨p,Lv,nb,ev',_,h2,hu.take hw hxn hg hy hi0⟩,(Rx.of_below (below_n W k) h.bd.2.1).trans R2⟩
    rw [hi0] at c8
    clear h hw e1 hbn hro hev hi
    go_enter Tryz.func68,Tryz.ntmps68
    go_wp2_with (first
     | (go_at_call 81;refine (unhide HD).mono ?_;rintro e w1 ⟨rfl,hw1⟩;rw [hw1];clear hw1)
     | (go_at_call 93;refine (unhide HF).mono ?_;rintro e w1 ⟨rfl,dk,hw1⟩;rw [hw1];clear hw1)
     | (go_at_call 82;refine (unhide HA dk).mono ?_;rintro e w1 ⟨rfl,hw1⟩;rw [hw1];clear hw1)
     | (go_at_call 132;refine (unhide HP dk).mono ?_;rintro e w1 ⟨rfl,hO⟩))
    go_ret
    exact ⟨rfl,hO⟩
end
end Go.Proofs.YtlngeaacjbdmhaaGreat.Rf
