/-
 The contract of slices.Delete of one entry: those behind it move up in their row.
-/
import Derived.Test.YtlngeaacjbdmhaaGreatPp02
import Derived.Deep.RegionLaw
import Derived.Lib.SliceRun
import Derived.Lib.Overlaps
import Derived.Lib.AppendZerosOnto
import Derived.Maps.AppendAt
import Derived.Laws.IdiomCopy
import Derived.Laws.NewBlocks
import Derived.Shelf.RegionOpenPlain
set_option maxRecDepth 100000
set_option maxHeartbeats 2000000
namespace Go.Proofs.YtlngeaacjbdmhaaGreat
open Go.RowKit
attribute [local go_sem ↓] Go.wp_at_zero Go.wp_at_succ
theorem heap_setCells {b:Nat} {t:TypeId}:∀ (vs:List Value) (o:Nat) (W:World) (cs:Array Value),W.heap[b]?=some (.cells cs t)→o + vs.length≤cs.size →
  ∃ cs':Array Value,(W.setCells b o vs).heap[b]?=some (.cells cs' t)∧cs'.toList=cs.toList.take o ++ vs ++ cs.toList.drop (o + vs.length)
 | [],o,W,cs,h,_=>⟨cs,h,by simp⟩
 | v :: r,o,W,cs,h,hl=>by
  simp only [List.length_cons] at hl
  obtain ⟨cs',h1,h2⟩:=heap_setCells r (o + 1) (W.setCell ⟨b,o,none⟩ v) (cs.setIfInBounds o v) (heap_set h o v) (by simp;omega)
  refine ⟨cs',h1,?_⟩
  have hlt:o < cs.toList.length:=by simp;omega
  have e:(cs.setIfInBounds o v).toList=cs.toList.take o ++ v :: cs.toList.drop (o + 1):=by
   rw [Array.toList_setIfInBounds,List.set_eq_take_append_cons_drop,if_pos hlt]
  have hto:(cs.toList.take o).length=o:=by rw [List.length_take];omega
  rw [h2,e,List.take_append,List.drop_append,hto]
  have hdn:(cs.toList.take o).drop (o + 1 + r.length)=[]:=List.drop_eq_nil_of_le (by omega)
  rw [List.take_of_length_le (l:=cs.toList.take o) (by omega),hdn]
  rw [show o + 1 - o=1 by omega,show o + 1 + r.length - o=r.length + 1 by omega,show o + (v :: r).length=o + 1 + r.length by simp;omega]
  simp
theorem heap_setCells_ne {b k:Nat} (hk:k≠b):∀ (vs:List Value) (o:Nat) (W:World),(W.setCells b o vs).heap[k]?=W.heap[k]?
 | [],_,_=>rfl
 | _ :: r,o,_=>(heap_setCells_ne hk r (o + 1) _).trans (Below.heap_setCell _ _ _ _ hk)
theorem setCells_rest (b:Nat):∀ (vs:List Value) (o:Nat) (W:World),(W.setCells b o vs).os=W.os∧(W.setCells b o vs).tape=W.tape∧(W.setCells b o vs).output=W.output∧(W.setCells b o vs).heap.size=W.heap.size
 | [],_,_=>⟨rfl,rfl,rfl,rfl⟩
 | v :: r,o,W=>by
  obtain ⟨h1,h2,h3,h4⟩:=setCells_rest b r (o + 1) (W.setCell ⟨b,o,none⟩ v)
  exact ⟨h1,h2,h3,by rw [World.setCells,h4];simp [World.setCell]⟩
theorem infoE:(Tryz.prog.info? 256).map (fun i=>(i.zero,i.size,i.bytes))=some (some (.agg #[.string ByteArray.empty,.int .i64 0]),2,24):=by kernel_rfl
structure Del (W W':World) (g:Nat):Prop where
 os:W'.os=W.os
 tape:W'.tape=W.tape
 output:W'.output=W.output
 size:W'.heap.size=W.heap.size
 blk:∀ k,k≠g→W'.heap[k]?=W.heap[k]?
theorem delete_any (base g n cap i:Nat) (es:Ents) (w:World) (hn:es.length=n) (hown:w.ownsRow base 256 2 (.slice (some ⟨g,0,none⟩) n cap) n (rowsOf row es)) (hi:i < n) :
  Calls Tryz.prog 213 #[.slice (some ⟨g,0,none⟩) n cap,.int .i64 (i:Int),.int .i64 ((i:Int) + 1)] w fun e w' =>
   e=.returned (.slice (some ⟨g,0,none⟩) (n - 1) cap)∧w'.ownsRow base 256 2 (.slice (some ⟨g,0,none⟩) (n - 1) cap) (n - 1) (rowsOf row (es.take i ++ es.drop (i + 1)))∧Del w w' g:=by
 obtain ⟨i0,hi0,hz0,hz1,hz2⟩:=info_parts infoE
 obtain ⟨hl0,⟨e0,_⟩ | ⟨g',cap',cur,e0,hgb,hgg,hcap,hcm,hcs,htk⟩⟩:=hown
 ·simp at e0
 simp only [Value.slice.injEq,Option.some.injEq,Addr.mk.injEq] at e0
 obtain ⟨⟨rfl,-,-⟩,-,rfl⟩:=e0
 have hmx:=hcm
 unfold maxLen at hmx
 obtain ⟨news,hnews⟩:∃ news,news=rowsOf row (es.drop (i + 1)):=⟨_,rfl⟩
 have hlen:news.length=(n - (i + 1)) * 2:=by rw [hnews,rows_len];simp [hn]
 have hcur:∀ (j:Nat) (u:Value),(rowsOf row es)[j]?=some u→cur[j]?=some u:=by
  intro j u hj
  have hj2:=(List.getElem?_eq_some_iff.1 hj).1
  rw [← htk] at hj
  rw [List.getElem?_take_of_lt (by omega)] at hj
  simpa using hj
 obtain ⟨A,hA,hsrc⟩:∃ A:Addr,(if cap=i + 1 then some (⟨g,0,none⟩:Addr) else some ⟨g,(i + 1) * 2,none⟩)=some A∧Hid (∀ t u,news[t]?=some u→w.drew.cell? (A.add t)=some u):=by
  by_cases h:cap=i + 1
  ·refine ⟨⟨g,0,none⟩,by simp [h],fun t u hu=>?_⟩
   have h0:news.length=0:=by rw [hlen];omega
   rw [List.length_eq_zero_iff.1 h0] at hu
   simp at hu
  ·refine ⟨⟨g,(i + 1) * 2,none⟩,by simp [h],fun t u hu=>?_⟩
   rw [Addr.add_lit]
   show w.cell? _=_
   rw [cell_of hgg]
   apply hcur
   rw [hnews,rows_drop,List.getElem?_drop] at hu
   exact hu
 have s1:Hid (news.length=(n - (i + 1)) * 2):=hlen
 have s2:Hid (∀ u ∈ news,u.oneCell'=true):=by rw [hnews];exact rows_one _
 have s3:Hid (∀ t,t < news.length→(w.drew.cell? ⟨g,0 + i * 2 + t,none⟩).isSome=true∧w.drew.frozen? ⟨g,0 + i * 2 + t,none⟩=false):=by
  intro t ht
  refine ⟨?_,frozen_of (W:=w.drew) hgg _⟩
  have:w.drew.cell? ⟨g,0 + i * 2 + t,none⟩=cur[0 + i * 2 + t]?:=cell_of hgg _
  rw [this,Array.getElem?_eq_getElem (by omega)];rfl
 obtain ⟨W1,hW1⟩:∃ W1,W1=w.drew.setCells g (0 + i * 2) news:=⟨_,rfl⟩
 obtain ⟨cs1,c1,c2⟩:=heap_setCells (b:=g) (t:=256) news (0 + i * 2) w.drew cur hgg (by omega)
 rw [← hW1] at c1
 have hs1:cs1.size=cap * 2:=by
  have:cs1.toList.length=cap * 2:=by rw [c2];simp;omega
  simpa using this
 have hcl:∀ ty,(Builtin.clear_ #[127] ty #[.slice (some ⟨g,(n - 1) * 2,none⟩) 1 (cap - (n - 1))]).run Tryz.prog W1=.ok (.tuple #[]) (W1.setCells g ((n - 1) * 2) [.string ⟨#[]⟩,.int .i64 0]):=by
  intro ty
  have hst:=run_storeCells_cells (P:=Tryz.prog) g ((n - 1) * 2) [.string ⟨#[]⟩,.int .i64 0] 0 W1
   (fun j hj=>by simp at hj;rw [cell_of c1,Array.getElem?_eq_getElem (by omega)];rfl) (fun j _=>frozen_of c1 _) (by intro v hv;simp at hv;rcases hv with rfl | rfl <;> rfl)
  simp only [Nat.add_zero] at hst
  have hzc:(Builtin.zeroCells (Value.agg #[.string ⟨#[]⟩,.int .i64 0]).cells 1).toList=[.string ⟨#[]⟩,.int .i64 0]:=by kernel_rfl
  simp [Builtin.clear_,run_underlying Tryz.underlying127,hzc,hst]
 obtain ⟨cs2,d1,d2⟩:=heap_setCells (b:=g) (t:=256) [.string ⟨#[]⟩,.int .i64 0] ((n - 1) * 2) W1 cs1 c1 (by simp;omega)
 have r1:=setCells_rest g news (0 + i * 2) w.drew
 have r2:=setCells_rest g [.string ⟨#[]⟩,.int .i64 0] ((n - 1) * 2) W1
 have r3:∀ k,k≠g→(W1.setCells g ((n - 1) * 2) [.string ⟨#[]⟩,.int .i64 0]).heap[k]?=w.heap[k]?:=fun k hk=>by
  rw [heap_setCells_ne hk,hW1,heap_setCells_ne hk];rfl
 have htake:(rowsOf row (es.take i ++ es.drop (i + 1)))=cs2.toList.take ((n - 1) * 2):=by
  have l1:(cs1.toList.take ((n - 1) * 2)).length=(n - 1) * 2:=by simp;omega
  have l2:(cur.toList.take (0 + i * 2) ++ news).length=(n - 1) * 2:=by simp;omega
  rw [d2,List.append_assoc,List.take_left' l1,c2,List.take_left' l2,rowsOf_append,rows_take,← htk,List.take_take,← hnews]
  rw [show min (i * 2) (n * 2)=0 + i * 2 by omega]
 have F:Hid ((W1.setCells g ((n - 1) * 2) [.string ⟨#[]⟩,.int .i64 0]).ownsRow base 256 2 (.slice (some ⟨g,0,none⟩) (n - 1) cap) (n - 1) (rowsOf row (es.take i ++ es.drop (i + 1)))∧Del w (W1.setCells g ((n - 1) * 2) [.string ⟨#[]⟩,.int .i64 0]) g):=by
  rw [← hW1] at r1
  refine ⟨⟨?_,.inr ⟨g,cap,cs2,rfl,hgb,d1,by omega,hcm,?_,htake.symm⟩⟩,⟨r2.1.trans r1.1,r2.2.1.trans r1.2.1,r2.2.2.1.trans r1.2.2.1,r2.2.2.2.trans r1.2.2.2,r3⟩⟩
  ·rw [rows_len];simp;omega
  ·have:cs2.toList.length=cap * 2:=by rw [d2];simp;omega
   simpa using this
 have hW:Hid (W1=w.drew.setCells g (0 + i * 2) news):=hW1
 have hic:i≤cap:=by omega
 have hjc:i + 1≤cap:=by omega
 have q1:(i:Int) < (n:Int):=by omega
 have q2:(0:Int)≤(i:Int):=by omega
 have q3:(0:Int)≤(i:Int) + 1:=by omega
 have q4:(i:Int) + 1≤(n:Int):=by omega
 have e1:i + (n - (i + 1))=n - 1:=by omega
 have e2:n - (n - 1)=1:=by omega
 clear hW1 c1 c2 d1 d2 r1 r2 r3 htake hgg hcur hnews htk hs1 hl0 hcs hcm
 go_enter Tryz.func213,Tryz.ntmps213
 go_wp2_with fail
 go_region_law (refine step_append_room rfl (.tmp 22) (.tmp 25) 127 rfl 256 i0 2 Tryz.underlying127 hi0 hz1 g 0 i cap (by simp [Act.eval,Act.put]) A (n - (i + 1)) (cap - (i + 1)) news (by simp [Act.eval,Act.put]) s1.out hsrc.out s2.out (by omega) s3.out ?_;rw [← hW.out])
 go_wp2
 go_ret
 exact ⟨rfl,F.out⟩
attribute [local go_sem ↓] Go.wp_at_zero Go.wp_at_succ
theorem run_copy2 {P:Program} (w:World) (dT sT ty elem:TypeId) (b o dLen dCap:Nat) (a:Addr) (sLen sCap m:Nat) (cs:List Value)
  (hu:P.underlying dT=some (.slice elem)) (hs:(P.info? elem).map (·.size)=some 2) (hm:m=Nat.min sLen dLen) (hn:cs.length=m * 2)
  (hsrc:∀ j v,cs[j]?=some v→w.cell? (a.add j)=some v) (hc:∀ j,j < cs.length→(w.cell? ⟨b,o + j,none⟩).isSome=true) (hf:∀ j,j < cs.length→w.frozen? ⟨b,o + j,none⟩=false) (h1:∀ v ∈ cs,v.oneCell'=true) :
  (Builtin.copy_ #[dT,sT] ty #[.slice (some ⟨b,o,none⟩) dLen dCap,.slice (some a) sLen sCap]).run P w=.ok (goInt m) (w.setCells b o cs):=by
 have hl:=run_loadCells_list (P:=P) w a cs hsrc
 have hst:=run_storeCells_cells (P:=P) b o cs 0 w (by simpa using hc) (by simpa using hf) h1
 rw [hn] at hl
 cases hq:P.info? elem with
 | none=>simp [hq] at hs
 | some i =>
  have hi:i.size=2:=by simpa [hq] using hs
  simp [Builtin.copy_,run_underlying hu,Builtin.lenOf,Builtin.firstCells,sizeOf,typeInfo,hq,hi,← hm,hl,hst]
theorem wpList_copy_eq {P:Program} (w:World) {ops:Array Oper} {rest:List Oper} {o:Oper} {a:Act} {Q:Exit→Act→World→Prop} (hgd:o.guard=none) (d s:Operand) (t t':TypeId)
  (ho:o.op=.call { callee:=.builtin .copy,args:=#[d,s],argTypes:=#[t,t'] }) (v u:Value) (hd:a.eval d=v) (hs:a.eval s=u) {v':Value} {w':World}
  (hr:(Builtin.copy_ #[t,t'] o.type #[v,u]).run P w=.ok v' w') (h:wpList P ops Q rest (a.put o.dst v') w'):wpList P ops Q (o :: rest) a w :=
 wpList_plain hgd fun _ hK=>by
  unfold Oper.wp execOp
  simp only [ho,resolve,invoke,builtin,Sem.run_bind,Sem.run_pure,Result.andThen_ok,List.map_toArray,List.map_cons,List.map_nil,hd,hs,hr]
  exact hK _ _ h
theorem step_copy_eq {P:Program} {ops:Array Oper} {o:Oper} {a:Act} {w:World} {K:Act→World→Prop} {Q:Exit→Act→World→Prop} {E:Prop}
  (hg:o.guard=none) (d x:Operand) (dT sT:TypeId) (hop:o.op=Op.call { callee:=Callee.builtin Builtin.copy,args:=#[d,x],argTypes:=#[dT,sT] })
  (v u:Value) (hd:a.eval d=v) (hx:a.eval x=u) {v':Value} {w':World} (hr:(Builtin.copy_ #[dT,sT] o.type #[v,u]).run P w=.ok v' w') (hK:K (a.put o.dst v') w') :
  if Region.wanted o (yielded ops a.tmps)=true then Oper.wp P o a w K Q else E:=by
 have hw:Region.wanted o (yielded ops a.tmps)=true:=by simp [Region.wanted,hg]
 rw [if_pos hw]
 unfold Oper.wp
 simp [execOp,hop,resolve,invoke,builtin,hd,hx,hr,Result.andThen]
 exact hK
theorem wpList_append_eq {P:Program} {w:World} {ops:Array Oper} {rest:List Oper} {o:Oper} {a:Act} {Q:Exit→Act→World→Prop} (hgd:o.guard=none) (s x:Operand) (t:TypeId)
  (ho:o.op=.call { callee:=.builtin .append,args:=#[s,x],argTypes:=#[t,t] }) (ty:TypeId) (hty:o.type=ty) (vs vx:Value) (hs:a.eval s=vs) (hx:a.eval x=vx) (v':Value) (w':World)
  (hrun:(Builtin.append_ #[t,t] ty #[vs,vx]).run P w=.ok v' w') (h:wpList P ops Q rest (a.put o.dst v') w'):wpList P ops Q (o :: rest) a w:=by
 refine wpList_plain hgd fun K hK=>?_
 unfold Oper.wp execOp
 simp only [ho,resolve,invoke,builtin,Sem.run_bind,Sem.run_pure,Result.andThen_ok,List.map_toArray,List.map_cons,List.map_nil,hs,hx,hty,hrun]
 exact hK _ _ h
theorem wpList_append_eqz {P:Program} {w:World} {ops:Array Oper} {rest:List Oper} {o:Oper} {a:Act} {Q:Exit→Act→World→Prop} (hgd:o.guard=none) (s x:Operand) (t t2:TypeId)
  (ho:o.op=.call { callee:=.builtin .append,args:=#[s,x],argTypes:=#[t,t2] }) (ty:TypeId) (hty:o.type=ty) (vs vx:Value) (hs:a.eval s=vs) (hx:a.eval x=vx) (v':Value) (w':World)
  (hrun:(Builtin.append_ #[t,t2] ty #[vs,vx]).run P w=.ok v' w') (h:wpList P ops Q rest (a.put o.dst v') w'):wpList P ops Q (o :: rest) a w:=by
 refine wpList_plain hgd fun K hK=>?_
 unfold Oper.wp execOp
 simp only [ho,resolve,invoke,builtin,Sem.run_bind,Sem.run_pure,Result.andThen_ok,List.map_toArray,List.map_cons,List.map_nil,hs,hx,hty,hrun]
 exact hK _ _ h
theorem size_E:(Tryz.prog.info? 256).map (·.size)=some 2:=by kernel_rfl
structure Ins (base:Nat) (w w':World) (v v':Value) (n:Nat) (es:Ents):Prop where
 own:w'.ownsRow base 256 2 v' n (rowsOf row es)
 gr:w.grownBy w' v.ownBlock
 at':v'.ownBlock=v.ownBlock ∨ v'.ownBlock=some w.heap.size
 len:es.length=n
theorem insert_end (base:Nat) (v:Value) (n:Nat) (es:Ents) (s:ByteArray) (m:Int) (vb:Nat) (w:World) (hn:es.length=n) (hown:w.ownsRow base 256 2 v n (rowsOf row es))
  (hv:w.heap[vb]?=some (.cells #[.string s,.int .i64 m] 256)) (hl:n < 1000) (hbase:base≤w.heap.size) :
  Calls Tryz.prog 212 #[v,.int .i64 (n:Int),.slice (some ⟨vb,0,none⟩) 1 1] w fun e w'=>∃ v',e=.returned v'∧Ins base w w' v v' (n + 1) (es ++ [(s,m)]):=by
 obtain ⟨i0,hi0,hz0,hz1,hz2⟩:=info_parts infoE
 obtain ⟨v',w',hr,h1,h2,_,h4⟩:=run_append_own_at (P:=Tryz.prog) w base 127 127 256 i0 (.agg #[.string ByteArray.empty,.int .i64 0]) 2 24 Tryz.underlying127 hi0 hz0 hz1 hz2 rfl (by decide) v n (rowsOf row es) hown ⟨vb,0,none⟩ 1 1 (row (s,m)) rfl
  (fun j u hj=>by
   rw [Addr.add_lit,Nat.zero_add,cell_of hv]
   simpa [row] using hj) (by intro u hu;simp [row] at hu;rcases hu with rfl | rfl <;> rfl) (by unfold maxLen;omega) (by omega) hbase
 have hr2:∀ ty,(Builtin.append_ #[127,127] ty #[v,.slice (some ⟨vb,0,none⟩) 1 1]).run Tryz.prog w=.ok v' w':=fun ty=>by rw [← hr];rfl
 have F:Hid (Ins base w w' v v' (n + 1) (es ++ [(s,m)])):=⟨by rw [rowsOf_append];exact h1,h2,h4,by simp [hn]⟩
 have q1:(n:Int) < 1000:=by omega
 obtain ⟨-,⟨rfl,hz⟩ | ⟨g,cap,cur,rfl,_,_,hcap,hcm,_⟩⟩:=hown
 ·subst hz
  clear h1 h2 h4 hv hr hi0 hz0 hz1 hz2 hn hbase
  go_enter Tryz.func212,Tryz.ntmps212
  go_wp2_with (at_builtin;refine wpList_append_eq rfl _ _ 127 rfl 127 rfl _ _ rfl rfl _ _ (hr2 _) ?_)
  go_ret
  exact ⟨_,rfl,F.out⟩
 ·have hmx:(cap:Int)≤9223372036854775807:=by unfold maxLen at hcm;omega
  have q2:(0:Int)≤(n:Int):=by omega
  have q3:(n:Int)≤(cap:Int):=by omega
  clear h1 h2 h4 hv hr hi0 hz0 hz1 hz2 hn hbase hcm
  by_cases hcn:cap=n
  ·subst hcn
   go_enter Tryz.func212,Tryz.ntmps212
   go_wp2_with (at_builtin;refine wpList_append_eq rfl _ _ 127 rfl 127 rfl _ _ rfl rfl _ _ (hr2 _) ?_)
   go_ret
   exact ⟨_,rfl,F.out⟩
  ·go_enter Tryz.func212,Tryz.ntmps212
   go_wp2_with (at_builtin;refine wpList_append_eq rfl _ _ 127 rfl 127 rfl _ _ rfl rfl _ _ (hr2 _) ?_)
   go_ret
   exact ⟨_,rfl,F.out⟩
attribute [local go_sem ↓] Go.wp_at_zero Go.wp_at_succ
theorem overlaps_no (g vb i M lb cb:Nat) (w:World) {s:ByteArray} {m:Int} {cur:Array Value} (hvb:vb≠g) (hv:w.heap[vb]?=some (.cells #[.string s,.int .i64 m] 256)) (hg:w.heap[g]?=some (.cells cur 256)) (hc:cur.size≠0) :
  (callFunc 278 #[.slice (some ⟨vb,0,none⟩) M M,.slice (some ⟨g,i,none⟩) lb cb]).run Tryz.prog w=.ok (.value (.bool false)) w:=by
 rw [run_callFunc_extern Tryz.func278 (by kernel_rfl) (by kernel_rfl) (by kernel_rfl) (e:=Extern.SlicesOverlaps.overlaps #[127,127] #[4]) (by kernel_rfl),
  Lib.run_overlaps_apart w 127 4 256 Tryz.underlying127 2 Tryz.sizeOf256 ⟨vb,0,none⟩ ⟨g,i,none⟩ M M lb cb hvb 256 256 2 cur.size (by simp [World.shape?,hv]) (by simp [World.shape?,hg]) hc (frozen_of hv _) (frozen_of hv _)]
 rfl
theorem insert_shift (base g n cap i:Nat) (es:Ents) (s:ByteArray) (m:Int) (vb:Nat) (w:World) (hn:es.length=n) (hown:w.ownsRow base 256 2 (.slice (some ⟨g,0,none⟩) n cap) n (rowsOf row es)) (hi:i < n) (M:Nat) (hM:M=1) (hroom:n + M≤cap) (hvb:vb≠g)
  (hv:w.heap[vb]?=some (.cells #[.string s,.int .i64 m] 256)) (hl:n < 1000) :
  Calls Tryz.prog 212 #[.slice (some ⟨g,0,none⟩) n cap,.int .i64 (i:Int),.slice (some ⟨vb,0,none⟩) M M] w fun e w'=>∃ v',e=.returned v'∧Ins base w w' (.slice (some ⟨g,0,none⟩) n cap) v' (n + 1) (es.take i ++ (s,m) :: es.drop i):=by
 obtain ⟨hl0,⟨e0,_⟩ | ⟨g',cap',cur,e0,hgb,hgg,hcap,hcm,hcs,htk⟩⟩:=hown
 ·simp at e0
 simp only [Value.slice.injEq,Option.some.injEq,Addr.mk.injEq] at e0
 obtain ⟨⟨rfl,-,-⟩,-,rfl⟩:=e0
 obtain ⟨news,hnews⟩:∃ news,news=rowsOf row (es.drop i):=⟨_,rfl⟩
 have hlen:news.length=(n - i) * 2:=by rw [hnews,rows_len];simp [hn]
 have hcur:∀ (j:Nat) (u:Value),(rowsOf row es)[j]?=some u→cur[j]?=some u:=by
  intro j u hj
  have hj2:=(List.getElem?_eq_some_iff.1 hj).1
  rw [← htk] at hj
  rw [List.getElem?_take_of_lt (by omega)] at hj
  simpa using hj
 have hov:∀ lb cb,(callFunc 278 #[.slice (some ⟨vb,0,none⟩) M M,.slice (some ⟨g,(i + M) * 2,none⟩) lb cb]).run Tryz.prog w=.ok (.value (.bool false)) w:=fun lb cb=>overlaps_no g vb _ M lb cb w hvb hv hgg (by omega)
 have hcp1:∀ ty dc sc,(Builtin.copy_ #[127,127] ty #[.slice (some ⟨g,(i + M) * 2,none⟩) (n + M - (i + M)) dc,.slice (some ⟨g,i * 2,none⟩) (n + M - i) sc]).run Tryz.prog w.drew=.ok (goInt (n - i:Nat)) (w.drew.setCells g ((i + M) * 2) news):=fun ty dc sc =>
  run_copy2 w.drew _ _ ty 256 g ((i + M) * 2) (n + M - (i + M)) dc ⟨g,i * 2,none⟩ (n + M - i) sc (n - i) news Tryz.underlying127 size_E (by simp only [Nat.min_def];split <;> omega) hlen
   (fun j u hj=>by
    rw [Addr.add_lit]
    show w.cell? _=_
    rw [cell_of hgg]
    apply hcur
    rw [hnews,rows_drop,List.getElem?_drop] at hj
    exact hj)
   (fun j hj=>by
    have:w.drew.cell? ⟨g,(i + M) * 2 + j,none⟩=cur[(i + M) * 2 + j]?:=cell_of hgg _
    rw [this,Array.getElem?_eq_getElem (by omega)];rfl)
   (fun j _=>frozen_of (W:=w.drew) hgg _) (by rw [hnews];exact rows_one _)
 obtain ⟨W1,hW1⟩:∃ W1,W1=w.drew.setCells g ((i + M) * 2) news:=⟨_,rfl⟩
 obtain ⟨cs1,c1,c2⟩:=heap_setCells (b:=g) (t:=256) news ((i + M) * 2) w.drew cur hgg (by omega)
 rw [← hW1] at c1
 have hs1:cs1.size=cap * 2:=by
  have:cs1.toList.length=cap * 2:=by rw [c2];simp;omega
  simpa using this
 have hv1:W1.heap[vb]?=some (.cells #[.string s,.int .i64 m] 256):=by rw [hW1,heap_setCells_ne hvb];exact hv
 have hcp2:∀ (W:World),(∀ x,W.cell? x=W1.cell? x)→(∀ x,W.frozen? x=W1.frozen? x)→∀ ty dc,(Builtin.copy_ #[127,127] ty #[.slice (some ⟨g,i * 2,none⟩) (n + M - i) dc,.slice (some ⟨vb,0,none⟩) M M]).run Tryz.prog W=.ok (goInt M) (W.setCells g (i * 2) (row (s,m))):=fun W hWc hWf ty dc =>
  run_copy2 W _ _ ty 256 g (i * 2) (n + M - i) dc ⟨vb,0,none⟩ M M M (row (s,m)) Tryz.underlying127 size_E (by simp only [Nat.min_def];split <;> omega) (by rw [hM];rfl)
   (fun j u hj=>by rw [Addr.add_lit,hWc,Nat.zero_add,cell_of hv1];simpa [row] using hj)
   (fun j hj=>by
    simp [row] at hj
    rw [hWc,cell_of c1,Array.getElem?_eq_getElem (by omega)];rfl)
   (fun j _=>by rw [hWf];exact frozen_of c1 _) (by intro u hu;simp [row] at hu;rcases hu with rfl | rfl <;> rfl)
 obtain ⟨cs2,d1,d2⟩:=heap_setCells (b:=g) (t:=256) (row (s,m)) (i * 2) W1 cs1 c1 (by simp [row];omega)
 have r1:=setCells_rest g news ((i + M) * 2) w.drew
 have r2:=setCells_rest g (row (s,m)) (i * 2) W1
 rw [← hW1] at r1
 have r3:∀ k,k≠g→(W1.setCells g (i * 2) (row (s,m))).heap[k]?=w.heap[k]?:=fun k hk=>by
  rw [heap_setCells_ne hk,hW1,heap_setCells_ne hk];rfl
 have htake:rowsOf row (es.take i ++ (s,m) :: es.drop i)=cs2.toList.take ((n + 1) * 2):=by
  have e1:cs1.toList.take (i * 2)=rowsOf row (es.take i):=by
   rw [c2,List.append_assoc,List.take_append_of_le_length (by simp;omega),List.take_take,rows_take,← htk,List.take_take]
   congr 1
   omega
  have e2:cs1.toList.drop (i * 2 + 2)=news ++ cur.toList.drop ((i + M) * 2 + news.length):=by
   rw [c2,List.append_assoc,List.drop_append_of_le_length (by simp;omega),List.drop_eq_nil_of_le (by simp;omega)]
   rfl
  have e3:cs2.toList=(rowsOf row (es.take i) ++ row (s,m) ++ news) ++ cur.toList.drop ((i + M) * 2 + news.length):=by
   rw [d2,e1,show i * 2 + (row (s,m)).length=i * 2 + 2 by rfl,e2]
   simp
  have l1:(rowsOf row (es.take i) ++ row (s,m) ++ news).length=(n + 1) * 2:=by
   simp only [List.length_append,rows_len,List.length_take,hlen,hn,row,List.length_cons,List.length_nil]
   omega
  rw [e3,List.take_left' l1,rowsOf_append,hnews]
  rw [show rowsOf row ((s,m) :: es.drop i)=row (s,m) ++ rowsOf row (es.drop i) by simp [rowsOf]]
  simp
 have F:Hid (Ins base w (W1.setCells g (i * 2) (row (s,m))) (.slice (some ⟨g,0,none⟩) n cap) (.slice (some ⟨g,0,none⟩) (n + M) cap) (n + 1) (es.take i ++ (s,m) :: es.drop i)):=by
  have hel:(es.take i ++ (s,m) :: es.drop i).length=n + 1:=by simp;omega
  refine ⟨⟨?_,.inr ⟨g,cap,cs2,by rw [hM],hgb,d1,by omega,hcm,?_,htake.symm⟩⟩,⟨r2.1.trans r1.1,r2.2.1.trans r1.2.1,r2.2.2.1.trans r1.2.2.1,by rw [r2.2.2.2,r1.2.2.2];exact Nat.le_refl _,fun k _ hk=>r3 k (fun e=>hk (by rw [e];rfl))⟩,.inl rfl,hel⟩
  ·rw [rows_len,hel]
  ·have:cs2.toList.length=cap * 2:=by rw [d2];simp [row];omega
   simpa using this
 rw [← hW1] at hcp1
 have hmx:cap≤9223372036854775807:=by unfold maxLen at hcm;omega
 have hm0:0 < M:=by omega
 have mixed:Tryz.prog.follows Departure.mixedOrders=true:=by kernel_rfl
 have hz1:¬ ((M:Int)=0):=by omega
 have hz2:¬ ((i:Int)=(n:Int)):=by omega
 have hb4:¬ (cap=i):=by omega
 have hb2:¬ (cap=i + M):=by omega
 have hb1:(0:Int)≤(i:Int) + (M:Int):=by omega
 have hin:i≤n:=by omega
 have hw1:IntKind.i64.wrap ((i:Int) + (M:Int))=(i:Int) + (M:Int):=by rw [IntKind.wrap_i64];omega
 have htn:((i:Int) + (M:Int)).toNat=i + M:=by omega
 have hb3:(i:Int)≤(n:Int) + (M:Int):=by omega
 clear c1 c2 d1 d2 r1 r2 r3 htake hgg hcur hnews htk hs1 hl0 hcs hcm hlen hv hv1 hn hW1 hM hl hgb
 go_enter Tryz.func212,Tryz.ntmps212
 go_wp2_with (simp only [hov])
 go_region_law_o (refine step_copy_eq rfl _ _ 127 127 rfl _ _ (by simp [Act.eval,Act.put]) (by simp [Act.eval,Act.put]) (hcp1 _ _ _) ?_)
 go_wp2_with (at_builtin;refine wpList_copy_eq _ rfl _ _ 127 127 rfl _ _ rfl rfl (hcp2 _ (fun _=>rfl) (fun _=>rfl) _ _) ?_)
 go_ret
 exact ⟨_,rfl,F.out⟩
attribute [local go_sem ↓] Go.wp_at_zero Go.wp_at_succ
theorem insert_grow (base g n cap i:Nat) (es:Ents) (s:ByteArray) (m:Int) (vb:Nat) (w:World) (hn:es.length=n) (hown:w.ownsRow base 256 2 (.slice (some ⟨g,0,none⟩) n cap) n (rowsOf row es)) (hi:i < n) (M:Nat) (hM:M=1) (hroom:cap < n + M)
  (hv:w.heap[vb]?=some (.cells #[.string s,.int .i64 m] 256)) (hl:n < 1000) (hbase:base≤w.heap.size) :
  Calls Tryz.prog 212 #[.slice (some ⟨g,0,none⟩) n cap,.int .i64 (i:Int),.slice (some ⟨vb,0,none⟩) M M] w fun e w'=>∃ v',e=.returned v'∧Ins base w w' (.slice (some ⟨g,0,none⟩) n cap) v' (n + 1) (es.take i ++ (s,m) :: es.drop i):=by
 obtain ⟨i0,hi0,hz0,hzs,hzb⟩:=info_parts infoE
 obtain ⟨hl0,⟨e0,_⟩ | ⟨g',cap',cur,e0,hgb,hgg,hcap,hcm,hcs,htk⟩⟩:=hown
 ·simp at e0
 simp only [Value.slice.injEq,Option.some.injEq,Addr.mk.injEq] at e0
 obtain ⟨⟨rfl,-,-⟩,-,rfl⟩:=e0
 have hgl:=lt_of_heap hgg
 have hvl:=lt_of_heap hv
 obtain ⟨news,hnews⟩:∃ news,news=rowsOf row (es.drop i):=⟨_,rfl⟩
 have hlen:news.length=(n - i) * 2:=by rw [hnews,rows_len];simp [hn]
 obtain ⟨olds,holds⟩:∃ olds,olds=rowsOf row (es.take i):=⟨_,rfl⟩
 have holen:olds.length=i * 2:=by rw [holds,rows_len];simp [hn];omega
 have hcur:∀ (j:Nat) (u:Value),(rowsOf row es)[j]?=some u→cur[j]?=some u:=by
  intro j u hj
  have hj2:=(List.getElem?_eq_some_iff.1 hj).1
  rw [← htk] at hj
  rw [List.getElem?_take_of_lt (by omega)] at hj
  simpa using hj
 have hold:(Builtin.firstCells i0.size i (.slice (some ⟨g,0,none⟩) i cap)).run Tryz.prog w.drew=.ok olds.toArray w.drew:=by
  rw [hzs]
  exact run_firstCells_some w.drew 2 i ⟨g,0,none⟩ i cap olds (by omega) (fun j u hj=>by
   rw [Addr.add_lit,Nat.zero_add]
   show w.cell? _=_
   rw [cell_of hgg]
   apply hcur
   rw [holds,rows_take] at hj
   rw [List.getElem?_take] at hj
   split at hj
   ·exact hj
   ·cases hj)
 have hkk:(n:Int) + (M:Int) - (i:Int)=((n + M - i:Nat):Int):=by omega
 have hik:i + (n + M - i)=n + M:=by omega
 obtain ⟨G,hG⟩:∃ G,G=grownCap w (n + M) cap 256:=⟨_,rfl⟩
 have hGn:n + M≤G:=by rw [hG];exact grownCap_ge w _ _ _
 have hGm:G≤maxLen:=by rw [hG];exact grownCap_le_maxLen w (n + M) cap 256 (by unfold maxLen;omega)
 obtain ⟨ROW,hROW⟩:∃ ROW:Array Value,ROW=olds.toArray ++ Builtin.zeroCells (Value.agg #[.string ByteArray.empty,.int .i64 0]).cells (n + M - i) ++ Builtin.zeroCells (Value.agg #[.string ByteArray.empty,.int .i64 0]).cells (G - (n + M)):=⟨_,rfl⟩
 have hRs:ROW.size=G * 2:=by
  have hz:(Value.agg #[.string ByteArray.empty,.int .i64 0]).cells.size=2:=rfl
  rw [hROW]
  simp only [Array.size_append,List.size_toArray,size_zeroCells,hz,holen]
  omega
 have hRt:ROW.toList.take (i * 2)=olds:=by
  rw [hROW]
  simp only [Array.toList_append,List.append_assoc]
  rw [← holen]
  exact List.take_left
 have hrz:∀ ty,(Builtin.append_ #[127,3] ty #[.slice (some ⟨g,0,none⟩) i cap,.int .i64 ((n:Int) + (M:Int) - (i:Int))]).run Tryz.prog w=.ok (.slice (some ⟨w.heap.size,0,none⟩) (n + M) G) (w.drew.alloc (.cells ROW 256)):=fun ty=>by
  have h:=Lib.run_append_grow_zeros w 127 3 ty 256 i0 _ .i64 .i64 Tryz.underlying127 Tryz.underlying3 hi0 hz0 (some ⟨g,0,none⟩) i cap olds hold (n + M - i) (by omega) (by omega) (by omega) (by omega) (by rw [hzb];omega) (by rw [hzb,hik];exact growslice_fits hroom (by omega))
  rw [hik,← hG] at h
  rw [hkk,hROW]
  exact h
 obtain ⟨W1,hW1⟩:∃ W1,W1=w.drew.alloc (.cells ROW 256):=⟨_,rfl⟩
 rw [← hW1] at hrz
 have h1g:W1.heap[w.heap.size]?=some (.cells ROW 256):=by rw [hW1];exact heap_alloc_new w.drew _
 have h1o:∀ k,k < w.heap.size→W1.heap[k]?=w.heap[k]?:=fun k hk=>by rw [hW1];exact heap_alloc_old w.drew _ hk
 have hv1:W1.heap[vb]?=some (.cells #[.string s,.int .i64 m] 256):=(h1o _ hvl).trans hv
 have hcpA:∀ (W:World),(∀ x,W.cell? x=W1.cell? x)→(∀ x,W.frozen? x=W1.frozen? x)→∀ ty dc,(Builtin.copy_ #[127,127] ty #[.slice (some ⟨w.heap.size,i * 2,none⟩) (n + M - i) dc,.slice (some ⟨vb,0,none⟩) M M]).run Tryz.prog W=.ok (goInt M) (W.setCells w.heap.size (i * 2) (row (s,m))):=fun W hWc hWf ty dc =>
  run_copy2 W _ _ ty 256 w.heap.size (i * 2) (n + M - i) dc ⟨vb,0,none⟩ M M M (row (s,m)) Tryz.underlying127 size_E (by simp only [Nat.min_def];split <;> omega) (by rw [hM];rfl)
   (fun j u hj=>by rw [Addr.add_lit,hWc,Nat.zero_add,cell_of hv1];simpa [row] using hj)
   (fun j hj=>by
    simp [row] at hj
    rw [hWc,cell_of h1g,Array.getElem?_eq_getElem (by omega)];rfl)
   (fun j _=>by rw [hWf];exact frozen_of h1g _) (by intro u hu;simp [row] at hu;rcases hu with rfl | rfl <;> rfl)
 obtain ⟨cs1,c1,c2⟩:=heap_setCells (b:=w.heap.size) (t:=256) (row (s,m)) (i * 2) W1 ROW h1g (by simp [row];omega)
 have hs1:cs1.size=G * 2:=by
  have:cs1.toList.length=G * 2:=by rw [c2];simp [row];omega
  simpa using this
 have hgN:g≠w.heap.size:=by omega
 have hcpB:∀ (W:World),(∀ x,W.cell? x=(W1.setCells w.heap.size (i * 2) (row (s,m))).cell? x)→(∀ x,W.frozen? x=(W1.setCells w.heap.size (i * 2) (row (s,m))).frozen? x)→∀ ty dc sc,(Builtin.copy_ #[127,127] ty #[.slice (some ⟨w.heap.size,(i + M) * 2,none⟩) (n + M - (i + M)) dc,.slice (some ⟨g,i * 2,none⟩) (n - i) sc]).run Tryz.prog W=.ok (goInt (n - i:Nat)) (W.setCells w.heap.size ((i + M) * 2) news):=fun W hWc hWf ty dc sc =>
  run_copy2 W _ _ ty 256 w.heap.size ((i + M) * 2) (n + M - (i + M)) dc ⟨g,i * 2,none⟩ (n - i) sc (n - i) news Tryz.underlying127 size_E (by simp only [Nat.min_def];split <;> omega) hlen
   (fun j u hj=>by
    have hg2:(W1.setCells w.heap.size (i * 2) (row (s,m))).heap[g]?=some (.cells cur 256):=by rw [heap_setCells_ne hgN,h1o _ hgl];exact hgg
    rw [Addr.add_lit,hWc,cell_of hg2]
    apply hcur
    rw [hnews,rows_drop,List.getElem?_drop] at hj
    exact hj)
   (fun j hj=>by rw [hWc,cell_of c1,Array.getElem?_eq_getElem (by omega)];rfl)
   (fun j _=>by rw [hWf];exact frozen_of c1 _) (by rw [hnews];exact rows_one _)
 have htl:∀ (W:World) (cs2:Array Value),W.heap[w.heap.size]?=some (.cells cs2 256)→cs2.toList=cs1.toList.take ((i + M) * 2) ++ news ++ cs1.toList.drop ((i + M) * 2 + news.length)→W.os=w.os→W.tape=w.tape→W.output=w.output→w.heap.size≤W.heap.size→(∀ k,k < w.heap.size→W.heap[k]?=w.heap[k]?) →
   Ins base w W (.slice (some ⟨g,0,none⟩) n cap) (.slice (some ⟨w.heap.size,0,none⟩) (n + M) G) (n + 1) (es.take i ++ (s,m) :: es.drop i):=by
  intro W cs2 d1 d2 o1 o2 o3 o4 o5
  have hel:(es.take i ++ (s,m) :: es.drop i).length=n + 1:=by simp;omega
  have e1:cs1.toList.take ((i + M) * 2)=rowsOf row (es.take i) ++ row (s,m):=by
   have l1:(ROW.toList.take (i * 2) ++ row (s,m)).length=(i + M) * 2:=by rw [hRt];simp [row,holen];omega
   rw [c2,List.take_left' l1,hRt,holds]
  have l2:(rowsOf row (es.take i) ++ row (s,m) ++ news).length=(n + 1) * 2:=by
   simp only [List.length_append,rows_len,List.length_take,hlen,hn,row,List.length_cons,List.length_nil]
   omega
  have htake:rowsOf row (es.take i ++ (s,m) :: es.drop i)=cs2.toList.take ((n + 1) * 2):=by
   rw [d2,e1,List.take_left' l2,rowsOf_append,hnews]
   rw [show rowsOf row ((s,m) :: es.drop i)=row (s,m) ++ rowsOf row (es.drop i) by simp [rowsOf]]
   simp
  refine ⟨⟨?_,.inr ⟨w.heap.size,G,cs2,by rw [hM],hbase,d1,by omega,hGm,?_,htake.symm⟩⟩,⟨o1,o2,o3,o4,fun k hk _=>o5 k hk⟩,.inr rfl,hel⟩
  ·rw [rows_len,hel]
  ·have:cs2.toList.length=G * 2:=by rw [d2];simp;omega
   simpa using this
 have F:Hid (∀ W:World,W=((((w.alloc (.cells ROW 256)).drew.setCells w.heap.size (i * 2) (row (s,m))).drew).setCells w.heap.size ((i + M) * 2) news)→Ins base w W (.slice (some ⟨g,0,none⟩) n cap) (.slice (some ⟨w.heap.size,0,none⟩) (n + M) G) (n + 1) (es.take i ++ (s,m) :: es.drop i)):=by
  rintro W rfl
  have c1':(((w.alloc (.cells ROW 256)).drew.setCells w.heap.size (i * 2) (row (s,m))).drew).heap[w.heap.size]?=some (.cells cs1 256):=by
   obtain ⟨cs',k1,k2⟩:=heap_setCells (b:=w.heap.size) (t:=256) (row (s,m)) (i * 2) (w.alloc (.cells ROW 256)).drew ROW (heap_alloc_new w _) (by simp [row];omega)
   have:cs'=cs1:=Array.toList_inj.1 (k2.trans c2.symm)
   rw [← this]
   exact k1
  obtain ⟨cs2,d1,d2⟩:=heap_setCells (b:=w.heap.size) (t:=256) news ((i + M) * 2) _ cs1 c1' (by omega)
  have r1:=setCells_rest w.heap.size (row (s,m)) (i * 2) (w.alloc (.cells ROW 256)).drew
  have r2:=setCells_rest w.heap.size news ((i + M) * 2) ((w.alloc (.cells ROW 256)).drew.setCells w.heap.size (i * 2) (row (s,m))).drew
  refine htl _ cs2 d1 d2 (r2.1.trans r1.1) (r2.2.1.trans r1.2.1) (r2.2.2.1.trans r1.2.2.1) ?_ fun k hk=>?_
  ·rw [r2.2.2.2]
   show _≤((w.alloc (.cells ROW 256)).drew.setCells w.heap.size (i * 2) (row (s,m))).heap.size
   rw [r1.2.2.2]
   simp
  ·rw [heap_setCells_ne (by omega)]
   show ((w.alloc (.cells ROW 256)).drew.setCells w.heap.size (i * 2) (row (s,m))).heap[k]?=_
   rw [heap_setCells_ne (by omega)]
   exact heap_alloc_old w _ hk
 subst hW1
 have hE1:∀ x,((w.alloc (.cells ROW 256)).drew).cell? x=(w.drew.alloc (.cells ROW 256)).cell? x:=fun x=>rfl
 have hE2:∀ x,((w.alloc (.cells ROW 256)).drew).frozen? x=(w.drew.alloc (.cells ROW 256)).frozen? x:=fun x=>rfl
 have hF1:∀ x,(((w.alloc (.cells ROW 256)).drew.setCells w.heap.size (i * 2) (row (s,m))).drew).cell? x=((w.drew.alloc (.cells ROW 256)).setCells w.heap.size (i * 2) (row (s,m))).cell? x:=fun x=>rfl
 have hF2:∀ x,(((w.alloc (.cells ROW 256)).drew.setCells w.heap.size (i * 2) (row (s,m))).drew).frozen? x=((w.drew.alloc (.cells ROW 256)).setCells w.heap.size (i * 2) (row (s,m))).frozen? x:=fun x=>rfl
 have mixed:Tryz.prog.follows Departure.mixedOrders=true:=by kernel_rfl
 have hm0:0 < M:=by omega
 have hz1:¬ ((M:Int)=0):=by omega
 have hz2:¬ ((i:Int)=(n:Int)):=by omega
 have hz3:(cap:Int) < (n:Int) + (M:Int):=by omega
 have hG63:G≤9223372036854775807:=by unfold maxLen at hGm;omega
 have hn63:(n + M) * 24≤140737488355328:=by omega
 have hGi:¬ (G=i):=by omega
 have hGim:¬ (G=i + M):=by omega
 have hci:¬ (cap=i):=by omega
 have hb1:(0:Int)≤(i:Int) + (M:Int):=by omega
 have hin:i≤n:=by omega
 have hw1:IntKind.i64.wrap ((i:Int) + (M:Int))=(i:Int) + (M:Int):=by rw [IntKind.wrap_i64];omega
 have htn:((i:Int) + (M:Int)).toNat=i + M:=by omega
 have hb3:(i:Int)≤(n:Int):=by omega
 clear hkk hik hold hROW hG hRs hRt htl c1 c2 hs1 hv1 h1g h1o hgg hcur hnews holds holen htk hcs hcm hlen hv hn hM hl hgb hl0 hi0 hz0 hzs hzb hGm hvl hgl hgN hbase
 go_enter Tryz.func212,Tryz.ntmps212
 go_wp2_with (first
  | (at_builtin;refine wpList_append_eqz rfl _ _ 127 3 rfl _ rfl _ _ rfl rfl _ _ (hrz _) ?_)
  | (at_builtin;refine wpList_copy_eq _ rfl _ _ 127 127 rfl _ _ rfl rfl (hcpA _ hE1 hE2 _ _) ?_)
  | (at_builtin;refine wpList_copy_eq _ rfl _ _ 127 127 rfl _ _ rfl rfl (hcpB _ (fun _=>rfl) (fun _=>rfl) _ _ _) ?_))
 go_region_law_o (refine step_copy_eq rfl _ _ 127 127 rfl (.slice (some ⟨w.heap.size,(i + M) * 2,none⟩) (n + M - (i + M)) (G - (i + M))) (.slice (some ⟨g,i * 2,none⟩) (n - i) (cap - i)) (by simp [Act.eval,Act.put]) (by simp [Act.eval,Act.put]) (hcpB _ hF1 hF2 3 (G - (i + M)) (cap - i)) ?_)
 go_wp2
 go_ret
 exact ⟨_,rfl,F.out _ rfl⟩
theorem insert_any (base:Nat) (v:Value) (n i:Nat) (es:Ents) (s:ByteArray) (m:Int) (vb:Nat) (w:World) (hn:es.length=n) (hown:w.ownsRow base 256 2 v n (rowsOf row es)) (hi:i≤n) (hvb:some vb≠v.ownBlock)
  (hv:w.heap[vb]?=some (.cells #[.string s,.int .i64 m] 256)) (hl:n < 1000) (hbase:base≤w.heap.size) :
  Calls Tryz.prog 212 #[v,.int .i64 (i:Int),.slice (some ⟨vb,0,none⟩) 1 1] w fun e w'=>∃ v',e=.returned v'∧Ins base w w' v v' (n + 1) (es.take i ++ (s,m) :: es.drop i):=by
 by_cases he:i=n
 ·subst he
  refine (insert_end base v i es s m vb w hn hown hv hl hbase).mono ?_
  rintro e w' ⟨v',rfl,h⟩
  refine ⟨v',rfl,?_⟩
  rw [← hn,List.take_length,List.drop_length] at *
  exact h
 ·have hown2:=hown
  obtain ⟨-,⟨rfl,hz⟩ | ⟨g,cap,cur,rfl,_,_,h1,_⟩⟩:=hown
  ·omega
  ·by_cases hr:n + 1≤cap
   ·exact insert_shift base g n cap i es s m vb w hn hown2 (by omega) 1 rfl hr (fun e=>hvb (by rw [e];rfl)) hv hl
   ·exact insert_grow base g n cap i es s m vb w hn hown2 (by omega) 1 rfl (by omega) hv hl hbase
attribute [local go_sem ↓] Go.wp_at_zero Go.wp_at_succ
def Ro (lo:Nat) (W:World) (v:Value) (es:Ents):Prop:=W.ownsRow lo 256 2 v es.length (rowsOf row es)
theorem Ro.below {lo:Nat} {W W':World} {v:Value} {es:Ents} (h:Ro lo W v es) (g:Below W.heap.size W W'):Ro lo W' v es:=own_keep h fun k _ e=>g.block k (lt_of_heap e)
theorem Ro.open' {lo:Nat} {W:World} {v:Value} {es:Ents} (h:Ro lo W v es):(v=.slice none 0 0∧es=[]) ∨ ∃ g cap,v=.slice (some ⟨g,0,none⟩) es.length cap∧es.length≤cap∧cap≤maxLen∧lo≤g∧g < W.heap.size∧∀ (i:Nat) (a:ByteArray) (n:Int),es[i]?=some (a,n)→W.cell? ⟨g,i * 2,none⟩=some (.string a)∧W.cell? ⟨g,i * 2 + 1,none⟩=some (.int .i64 n):=by
 obtain ⟨hl,⟨rfl,hz⟩ | ⟨g,cap,cur,rfl,hgb,hgg,hcap,hcm,hcs,htk⟩⟩:=h
 ·exact .inl ⟨rfl,List.eq_nil_of_length_eq_zero hz⟩
 ·refine .inr ⟨g,cap,rfl,hcap,hcm,hgb,lt_of_heap hgg,fun i a n hi=>?_⟩
  obtain ⟨h1,h2⟩:=rows_at es i a n hi
  have hi2:=(List.getElem?_eq_some_iff.1 hi).1
  refine ⟨?_,?_⟩
  ·rw [cell_of hgg,← h1,← htk,List.getElem?_take_of_lt (by omega)];simp
  ·rw [cell_of hgg,← h2,← htk,List.getElem?_take_of_lt (by omega)];simp
theorem pos_of {es:Ents} {s:ByteArray} (hs:Srt es) {i:Nat} (hi:i≤es.length) (h1:∀ k e,k < i→es[k]?=some e→cmpS e.1 s < 0) (h2:∀ k e,i≤k→es[k]?=some e→¬ cmpS e.1 s < 0):pos es s=i:=by
 obtain ⟨g1,g2⟩:=hs.pos_split s
 have hp:=pos_le es s
 rcases Nat.lt_trichotomy (pos es s) i with h | h | h
 ·exfalso
  have hl:pos es s < es.length:=by omega
  have:=h1 (pos es s) _ h (List.getElem?_eq_getElem hl)
  exact g2 _ (by rw [List.drop_eq_getElem_cons hl];exact List.mem_cons_self) this
 ·exact h
 ·exfalso
  have hl:i < es.length:=by omega
  refine h2 i _ (Nat.le_refl _) (List.getElem?_eq_getElem hl) (g1 _ ?_)
  have:es[i]=(es.take (pos es s))[i]'(by simp;omega):=by simp
  rw [this]
  exact List.getElem_mem _
def Bd (es:Ents) (s:ByteArray) (x y:Nat):Prop:=(∀ k e,k < x→es[k]?=some e→cmpS e.1 s < 0)∧∀ k e,y≤k→es[k]?=some e→¬ cmpS e.1 s < 0
theorem fwd_of {es:Ents} {s:ByteArray} {x y m:Nat} {a:ByteArray} {n:Int} (hs:Srt es) (hE:es[m]?=some (a,n)) (hI:Bd es s x y) (hc:cmpS a s < 0):Bd es s (m + 1) y :=
 ⟨fun k e hk he=>by
  rcases Nat.lt_or_eq_of_le (Nat.le_of_lt_succ hk) with hk | rfl
  ·exact cmpS_trans (hs.get hk he hE) hc
  ·rw [hE] at he;cases he;exact hc,hI.2⟩
theorem bwd_of {es:Ents} {s:ByteArray} {x y m:Nat} {a:ByteArray} {n:Int} (hs:Srt es) (hE:es[m]?=some (a,n)) (hI:Bd es s x y) (hc:0≤cmpS a s):Bd es s x m :=
 ⟨hI.1,fun k e hk he h'=>by
  rcases Nat.lt_or_eq_of_le hk with hk | rfl
  ·have h2:cmpS a s < 0:=cmpS_trans (hs.get hk hE he) h'
   omega
  ·rw [hE] at he;cases he;simp at h';omega⟩
theorem search_any {lo:Nat} {W:World} {v:Value} {es:Ents} (h:Ro lo W v es) (hs:Srt es) (hn:es.length < 1000) (s:ByteArray) :
  Calls Tryz.prog 274 #[v,.string s,.func (.func 275) #[] #[]] W fun e w'=>e=.returned (.tuple #[.int .i64 (pos es s:Nat),.bool (getE es s).isSome])∧Below W.heap.size W w':=by
 obtain ⟨N,hN⟩:∃ N,N=es.length:=⟨_,rfl⟩
 obtain ⟨P,hP⟩:∃ P,P=pos es s:=⟨_,rfl⟩
 obtain ⟨fin,hfin⟩:∃ fin,fin=(getE es s).isSome:=⟨_,rfl⟩
 rw [← hP,← hfin]
 have n1:(N:Int) < 1000:=by omega
 have hPl:P≤N:=by rw [hP,hN];exact pos_le _ _
 have HH:=hide h
 have HS:=hide hs
 have HN:=hide hN
 have HP:=hide hP
 have HF:=hide hfin
 rcases h.open' with ⟨rfl,hz⟩ | ⟨g,cap,rfl,hcap,hcm,hlo,hgl,hcells⟩
 ·have h0:N=0:=by rw [hN,hz];rfl
  have hp0:P=0:=by omega
  have hf0:fin=false:=by rw [hfin,hz];rfl
  subst hp0 hf0
  clear h hs hN hP hfin hz HH HS HN HP HF h0 hPl n1 hn
  go_enter Tryz.func274,Tryz.ntmps274
  go_wp2_with fail
  go_loopw [9,10] (fun a b wr=>a=.int .i64 0∧b=.int .i64 0∧wr=W) (fun _ _ _=>0)
  case atStart=>exact ⟨rfl,rfl,rfl⟩
  case round =>
   obtain ⟨rfl,rfl,rfl⟩:=hrel
   go_wp2_with fail
   go_ret2
   exact ⟨rfl,Below.refl _ _⟩
 ·rw [← hN]
  have hmx:cap≤9223372036854775807:=by unfold maxLen at hcm;omega
  have HC:=hide hcells
  have hcN:(N:Int)≤(cap:Int):=by omega
  clear h hs hN hP hfin hcells hcm hn
  go_enter Tryz.func274,Tryz.ntmps274
  go_wp2_with fail
  go_loopw [9,10] (fun a b wr=>∃ x y:Nat,a=.int .i64 (x:Int)∧b=.int .i64 (y:Int)∧x≤y∧y≤N∧Hid (Below W.heap.size W wr)∧Hid (Bd es s x y)) (fun a b _=>(intOf b).toNat - (intOf a).toNat)
  case atStart=>exact ⟨0,N,rfl,rfl,Nat.zero_le _,Nat.le_refl _,Below.refl _ _,(⟨fun k e hk=>absurd hk (Nat.not_lt_zero _),fun k e hk he=>by have:=(List.getElem?_eq_some_iff.1 he).1;have:=unhide HN;omega⟩:Bd es s 0 N)⟩
  case round =>
   obtain ⟨x,y,rfl,rfl,hxy,hyN,HB,HI⟩:=hrel
   by_cases hlt:x < y
   ·obtain ⟨m,hm⟩:∃ m:Nat,m=(x + y) / 2:=⟨_,rfl⟩
    have m1:x≤m:=by omega
    have m2:m < y:=by omega
    have hmN:m < es.length:=by have:=unhide HN;omega
    obtain ⟨⟨a,n⟩,he⟩:∃ e,es[m]?=some e:=⟨_,List.getElem?_eq_getElem hmN⟩
    obtain ⟨k1,k2⟩:=unhide HC m a n he
    have hgw:=(unhide HB).block g hgl
    have c1:wr.cell? ⟨g,m * 2,none⟩=some (.string a):=by rw [cell_same hgw];exact k1
    have c2:wr.cell? ⟨g,m * 2 + 1,none⟩=some (.int .i64 n):=by rw [cell_same hgw];exact k2
    have hmi:((x:Int) + (y:Int)) / 2=(m:Int):=by omega
    have m3:(m:Int) < (N:Int):=by omega
    have HM:=hide hm
    have HE:=hide he
    clear k1 k2 hgw he hm hmN
    obtain ⟨c,hc⟩:∃ c,c=cmpS a s:=⟨_,rfl⟩
    have HCC:=hide hc
    have cmp:=fun w=>(place1_any a n s w)
    rw [← hc] at cmp
    have H1:=hide cmp
    clear hc cmp hcap HH hlo
    by_cases hyx:c < 0
    ·go_wp2_with (go_at_call 275;refine (unhide H1 _).mono ?_;rintro e w' ⟨rfl,rfl⟩)
     go_roundw
     case measure=>simp [intOf];omega
     case rel=>exact ⟨m + 1,y,by simp,rfl,by omega,hyN,(unhide HB).alloc (unhide HB).size _,fwd_of (unhide HS) (unhide HE) (unhide HI) (by rw [← unhide HCC];exact hyx)⟩
    ·have hy0:0≤c:=by omega
     have HY:=hide hy0
     have hyb:(decide (c < 0))=false:=by simp;omega
     have HM1:=hide m1
     have HM2:=hide m2
     have HXY:=hide hxy
     have HLT:=hide hlt
     have hx6:(x:Int) < 1000:=by omega
     have hy6:(y:Int) < 1000:=by omega
     have HYN:=hide hyN
     clear m1 m2 hxy hlt hyN hy0
     go_wp2_with (go_at_call 275;refine (unhide H1 _).mono ?_;rintro e w' ⟨rfl,rfl⟩)
     go_roundw
     case measure=>have:=unhide HM2;have:=unhide HM1;simp [intOf];omega
     case rel=>exact ⟨x,m,rfl,rfl,unhide HM1,by have:=unhide HM2;have:=unhide HYN;omega,(unhide HB).alloc (unhide HB).size _,bwd_of (unhide HS) (unhide HE) (unhide HI) (by rw [← unhide HCC];exact unhide HY)⟩
   ·obtain rfl:x=y:=by omega
    have hpx:P=x:=by rw [unhide HP];exact pos_of (unhide HS) (by have:=unhide HN;omega) (unhide HI).1 (unhide HI).2
    have hfx:=((unhide HS).at_pos s).1
    rw [← unhide HP,← unhide HF,← unhide HN,hpx] at hfx
    subst hpx
    clear hlt hxy hcap HH hlo
    by_cases hz:P < N
    ·have hmN:P < es.length:=by have:=unhide HN;omega
     obtain ⟨⟨a,n⟩,he⟩:∃ e,es[P]?=some e:=⟨_,List.getElem?_eq_getElem hmN⟩
     obtain ⟨k1,k2⟩:=unhide HC P a n he
     have hgw:=(unhide HB).block g hgl
     have c1:wr.cell? ⟨g,P * 2,none⟩=some (.string a):=by rw [cell_same hgw];exact k1
     have c2:wr.cell? ⟨g,P * 2 + 1,none⟩=some (.int .i64 n):=by rw [cell_same hgw];exact k2
     have hz2:(P:Int) < (N:Int):=by omega
     rw [he] at hfx
     have hdc:decide (a=s)=decide (cmpS a s=0):=by
      by_cases h:a=s
      ·subst h;simp [cmpS_refl]
      ·have:¬ cmpS a s=0:=fun e=>h (cmpS_eq e)
       simp [h,this]
     simp only [hz,decide_true,Bool.true_and,hdc] at hfx
     obtain ⟨c,hc⟩:∃ c,c=cmpS a s:=⟨_,rfl⟩
     rw [← hc] at hfx
     have cmp:=fun w=>(place1_any a n s w)
     rw [← hc] at cmp
     have H1:=hide cmp
     have HFX:=hide hfx
     clear hc cmp hfx hdc he hmN k1 k2 hgw
     by_cases hc0:c=0
     ·subst hc0
      go_wp2_with (go_at_call 275;refine (unhide H1 _).mono ?_;rintro e w' ⟨rfl,rfl⟩)
      go_ret2
      exact ⟨by rw [unhide HFX];rfl,(unhide HB).alloc (unhide HB).size _⟩
     ·go_wp2_with (go_at_call 275;refine (unhide H1 _).mono ?_;rintro e w' ⟨rfl,rfl⟩)
      go_ret2
      exact ⟨by rw [unhide HFX];simp [hc0],(unhide HB).alloc (unhide HB).size _⟩
    ·obtain rfl:P=N:=by omega
     simp at hfx
     subst hfx
     clear hz
     go_wp2_with fail
     go_ret2
     exact ⟨rfl,unhide HB⟩
open Go.RowKit Go.Maps
def sumF (n:Nat) (f:Nat→Nat):Nat:=match n with | 0=>0 | n + 1=>sumF n f + f n
theorem sumF_congr {n:Nat} {f g:Nat→Nat} (h:∀ k,k < n→f k=g k):sumF n f=sumF n g:=by
 induction n with
 | zero=>rfl
 | succ n ih=>simp only [sumF];rw [ih fun k hk=>h k (by omega),h n (by omega)]
theorem sumF_set {n i:Nat} {f g:Nat→Nat} (hi:i < n) (h:∀ k,k < n→k≠i→f k=g k):sumF n f + g i=sumF n g + f i:=by
 induction n with
 | zero=>omega
 | succ n ih =>
  simp only [sumF]
  by_cases e:i=n
  ·subst e
   rw [sumF_congr fun k hk=>h k (by omega) (by omega)]
   omega
  ·have:=ih (by omega) fun k hk hne=>h k (by omega) hne
   have:=h n (by omega) (by omega)
   omega
theorem sumF_le {n i:Nat} {f:Nat→Nat} (hi:i < n):f i≤sumF n f:=by
 induction n with
 | zero=>omega
 | succ n ih =>
  simp only [sumF]
  by_cases e:i=n
  ·subst e;omega
  ·have:=ih (by omega)
   omega
def cnt1 (o:Option Nd) (n:Int):Nat:=match o with | some x=>x.ins.countP (fun e=>decide (e.2=n)) | none=>0
def Tr.cntE (T:Tr) (n:Int):Nat:=sumF (T.made + 1) fun k=>cnt1 (T.nd (k:Int)) n
structure Wk (B:Nat) (T:Tr):Prop where
 key:∀ n x,T.nd n=some x→1≤n∧n≤T.made
 srt:∀ n x,T.nd n=some x→Srt x.ins
 liv:∀ n x,T.nd n=some x→∀ e ∈ x.ins,(T.nd e.2).isSome=true
 made:T.made≤B
 bnd:∀ n x,T.nd n=some x→x.names≤B∧x.holds≤B∧x.ins.length≤B
 nam:∀ n x,T.nd n=some x→∀ e ∈ x.ins,e.1.size≤255
 txt:∀ n x,T.nd n=some x→x.text.size≤281474976710656
 fil:∀ n x,T.nd n=some x→0≤x.file∧x.file≤B∧(x.kind≠2→x.file=0)
 knd:∀ n x,T.nd n=some x→1≤x.kind∧x.kind≤3
 upw:∀ n x,T.nd n=some x→0≤x.up∧x.up≤B
 num:∀ n x,T.nd n=some x→x.names=T.cntE n + if n=1 then 1 else 0
 pol:T.pool.fs.length≤B
 mst:T.most≤64
theorem Wk.mono {B B':Nat} {T:Tr} (h:Wk B T) (hb:B≤B'):Wk B' T :=
 ⟨h.key,h.srt,h.liv,Nat.le_trans h.made hb,fun n x hn=>⟨Nat.le_trans (h.bnd n x hn).1 hb,Nat.le_trans (h.bnd n x hn).2.1 hb,Nat.le_trans (h.bnd n x hn).2.2 hb⟩,h.nam,h.txt,fun n x hn=>⟨(h.fil n x hn).1,by have:=(h.fil n x hn).2.1;omega,(h.fil n x hn).2.2⟩,h.knd,fun n x hn=>⟨(h.upw n x hn).1,by have:=(h.upw n x hn).2;omega⟩,h.num,Nat.le_trans h.pol hb,h.mst⟩
theorem Wk.wf {B:Nat} {T:Tr} (h:Wk B T) (hB:B≤900) {n:Int} {x:Nd} (hn:T.nd n=some x):(kl n).wf=true:=wf_of (by have:=h.key n x hn;have:=h.made;omega)
theorem Wk.ent {B:Nat} {T:Tr} (h:Wk B T) {n:Int} {x:Nd} (hn:T.nd n=some x) {e:Ent} (he:e ∈ x.ins):∃ y,T.nd e.2=some y:=Option.isSome_iff_exists.1 (h.liv n x hn e he)
theorem cntE_pos {B:Nat} {T:Tr} (h:Wk B T) {d:Int} {x:Nd} (hd:T.nd d=some x) {e:Ent} (he:e ∈ x.ins):0 < T.cntE e.2:=by
 obtain ⟨h1,h2⟩:=h.key d x hd
 have:=sumF_le (n:=T.made + 1) (i:=d.toNat) (f:=fun k=>cnt1 (T.nd (k:Int)) e.2) (by omega)
 rw [show ((d.toNat:Nat):Int)=d by omega,hd] at this
 have h3:0 < cnt1 (some x) e.2:=by
  simp only [cnt1]
  exact List.countP_pos_iff.2 ⟨e,he,by simp⟩
 simp only [Tr.cntE]
 omega
theorem Wk.sup {B:Nat} {T:Tr} (h:Wk B T) (k:Int) (e:(T.nd k).isSome=true):0≤k∧k < ((T.made + 1:Nat):Int):=by
 obtain ⟨x,hx⟩:=Option.isSome_iff_exists.1 e
 have:=h.key k x hx
 omega
end Go.Proofs.YtlngeaacjbdmhaaGreat
