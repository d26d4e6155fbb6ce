/-
 The contracts of size and Stat.
-/
import Derived.Test.YtlngeaacjbdmhaaGreatPp05
import Derived.Laws.ResultCell
import Derived.Test.YtlngeaacjbdmhaaGreatPp07
set_option maxRecDepth 100000
set_option maxHeartbeats 1000000
namespace Go.Proofs.YtlngeaacjbdmhaaGreat
open Go.RowKit Go.Maps
def Tr.statV (T:Tr) (n:Int) (x:Nd):Value:=.agg #[I n,I x.kind,I x.mode,I x.uid,I x.gid,I (T.links x:Nat),I (T.size x:Nat)]
def stat0:Value:=.agg #[I 0,I 0,I 0,I 0,I 0,I 0,I 0]
def Tr.stat (T:Tr) (n:Int):Value:=match T.nd n with | some x=>T.statV n x | none=>stat0
section
variable {lo N:Nat} {W W':World} {t:Nat} {T:Tr} {q p:Nat} {nb:Int→Nat} {ev:Int→Value} {B:Nat}
theorem tsize_any (h:TrI lo N W t T q p nb ev) (hw:Wk B T) (hB:B≤900) {n:Int} {x:Nd} (hx:T.nd n=some x) :
  Calls Tryz.prog 109 #[P0 t,P0 (nb n)] W fun e w'=>e=.returned (I (T.size x:Nat))∧∃ k,w'=W.drewN k:=by
 obtain ⟨c0,c1,c2,c3,cf⟩:=h.cells
 obtain ⟨d0,-,-,-,-,-,-,d7,d8,d9,df⟩:=ndcells (h.hn n x hx).1
 obtain ⟨k1,k2⟩:=hw.knd n x hx
 have hfw:(kl x.file).wf=true:=wf_of (by have:=hw.fil n x hx;omega)
 unfold Tr.size
 by_cases hk2:x.kind=2
 ·rw [hk2] at d0
  rw [if_pos hk2]
  have H:Hid (∀ j,Calls Tryz.prog 163 #[P0 p,I x.file] (W.drewN j) fun e w'=>e=.returned (I (sizeO (T.pool.get x.file)))∧w'=W.drewN j):=fun j=>size_any (h.pl.below (below_n W j)) hfw
  clear h hw hx d7 d9
  go_enter Tryz.func109,Tryz.ntmps109
  go_wp2_with fail
  go_quiet (first | (go_at_call 163;exact Calls.quiet_of_same (unhide H _)))
  go_wp2_with fail
  go_ret
  exact ⟨rfl,_,rfl⟩
 ·rw [if_neg hk2]
  by_cases hk3:x.kind=3
  ·rw [hk3] at d0
   rw [if_pos hk3]
   have ht:=hw.txt n x hx
   clear h hw hx d7
   go_enter Tryz.func109,Tryz.ntmps109
   go_wp2_with fail
   go_ret
   exact ⟨rfl,0,rfl⟩
  ·rw [if_neg hk3]
   have hk1:x.kind=1:=by omega
   rw [hk1] at d0
   obtain ⟨a,cap,hv⟩:=own_form (h.hn n x hx).2
   rw [hv] at d7
   clear h hw hx hk2 hk3 hk1 hv
   go_enter Tryz.func109,Tryz.ntmps109
   go_wp2_with fail
   go_ret
   exact ⟨rfl,0,rfl⟩
theorem stat_some (h:TrI lo N W t T q p nb ev) (hw:Wk B T) (hB:B≤900) {n:Int} {x:Nd} (hx:T.nd n=some x) :
  Calls Tryz.prog 37 #[P0 t,I n] W fun e w'=>e=.returned (.tuple #[T.statV n x,.bool true])∧Below W.heap.size W w':=by
 obtain ⟨c0,c1,c2,c3,cf⟩:=h.cells
 have hl:=fun o=>(h.below ((Below.refl _ W).alloc (Nat.le_refl _) o)).look_ok (hw.wf hB hx)
 rw [hx] at hl
 simp only [Option.isSome_some,if_true] at hl
 have htl:=lt_of_heap h.ht
 have hb:=(h.hn n x hx).1
 obtain ⟨d0,d1,d2,d3,-,-,-,-,-,-,df⟩:=ndcells hb
 have HL:Hid (∀ w',Below W.heap.size W w'→Calls Tryz.prog 108 #[P0 t,P0 (nb n)] w' fun e w2=>e=.returned (I (T.links x:Nat))∧Below w'.heap.size w' w2):=fun w' hB'=>links_any (h.below hB') hw hB hx
 have HS:Hid (∀ w',Below W.heap.size W w'→Calls Tryz.prog 109 #[P0 t,P0 (nb n)] w' fun e w2=>e=.returned (I (T.size x:Nat))∧∃ k,w2=w'.drewN k):=fun w' hB'=>tsize_any (h.below hB') hw hB hx
 have HD:Hid (∀ w',Below W.heap.size W w'→w'.cell? ⟨nb n,0,none⟩=some (I x.kind)∧w'.cell? ⟨nb n,1,none⟩=some (I x.mode)∧w'.cell? ⟨nb n,2,none⟩=some (I x.uid)∧w'.cell? ⟨nb n,3,none⟩=some (I x.gid)):=fun w' hB'=>by
  obtain ⟨e0,e1,e2,e3,-⟩:=ndcells ((hB'.block _ (lt_of_heap hb)).trans hb)
  exact ⟨e0,e1,e2,e3⟩
 have hB0:=hide (Below.refl W.heap.size W)
 unfold Tr.statV
 obtain ⟨L,hL⟩:∃ L:Int,L=((T.links x:Nat):Int):=⟨_,rfl⟩
 obtain ⟨Z,hZ⟩:∃ Z:Int,Z=((T.size x:Nat):Int):=⟨_,rfl⟩
 rw [← hL] at HL ⊢
 rw [← hZ] at HS ⊢
 obtain ⟨b,hb'⟩:∃ b,b=nb n:=⟨_,rfl⟩
 have hbl:=lt_of_heap hb
 rw [← hb'] at hl d0 d1 d2 d3 df HL HS HD hbl
 clear h hw hx hb hL hZ hb' c0 c1 c3
 go_enter Tryz.func37,Tryz.ntmps37
 go_wp2_with fail
 obtain ⟨W0,hW0⟩:∃ W0,W0=W.alloc (Obj.cells #[Value.int IntKind.i64 0,Value.int IntKind.i64 0,Value.int IntKind.i64 0,Value.int IntKind.i64 0,Value.int IntKind.i64 0,Value.int IntKind.i64 0,Value.int IntKind.i64 0] 33):=⟨_,rfl⟩
 have hB1:Below W.heap.size W W0:=by rw [hW0];exact (Below.refl _ W).alloc (Nat.le_refl _) _
 have hR:W0.heap[W.heap.size]?=some (.cells #[Value.int IntKind.i64 0,Value.int IntKind.i64 0,Value.int IntKind.i64 0,Value.int IntKind.i64 0,Value.int IntKind.i64 0,Value.int IntKind.i64 0,Value.int IntKind.i64 0] 33):=by rw [hW0];exact heap_alloc_new W _
 have hRl:=lt_of_heap hR
 rw [← hW0]
 clear hW0 hl d0 d1 d2 d3 df cf c2
 obtain ⟨e0,e1,e2,e3⟩:=unhide HD W0 hB1
 have HB1:=hide hB1
 have HR:=hide hR
 generalize hRR:W.heap.size=R at *
 have HRR:=hide hRR
 clear hRR
 have HLL:Hid (Calls Tryz.prog 108 #[P0 t,P0 b] W0.drew fun e w2=>e=.returned (I L)∧Hid (Below R W w2)∧w2.heap[R]?=some (.cells #[Value.int IntKind.i64 0,Value.int IntKind.i64 0,Value.int IntKind.i64 0,Value.int IntKind.i64 0,Value.int IntKind.i64 0,Value.int IntKind.i64 0,Value.int IntKind.i64 0] 33)):=by
  refine (unhide HL W0.drew (below_drew hB1)).mono ?_
  rintro e w2 ⟨h1,h2⟩
  exact ⟨h1,(below_drew hB1).trans (h2.mono (Nat.le_of_lt hRl)),(h2.block R hRl).trans hR⟩
 have hne:b≠R:=by omega
 have hne2:R≠b:=by omega
 clear hB1 hR HL
 go_region_held3 (fun w'=>w'.cell? ⟨b,0,none⟩=some (I x.kind)∧w'.cell? ⟨b,1,none⟩=some (I x.mode)∧w'.cell? ⟨b,2,none⟩=some (I x.uid)∧w'.cell? ⟨b,3,none⟩=some (I x.gid)) (go_keep)
  (first
   | (go_at_call 108;refine (unhide HLL).mono ?_;rintro e w2 ⟨rfl,HB2,hR2⟩;obtain ⟨f0,f1,f2,f3⟩:=unhide HD w2 (unhide HB2);obtain ⟨r0,r1,r2,r3,r4,r5,r6,rf⟩:=cells7 hR2;have HR2:=hide hR2;clear hR2)
   | (go_at_call 109;refine (unhide HS _ (unhide HB2)).mono ?_;rintro e w3 ⟨rfl,k3,rfl⟩))
 obtain ⟨X,hX⟩:∃ X,X=((((((((w2.drewN k3).setCell ⟨R,0,none⟩ (.int .i64 n)).setCell ⟨R,1,none⟩ (.int .i64 x.kind)).setCell ⟨R,2,none⟩ (.int .i64 x.mode)).setCell ⟨R,3,none⟩ (.int .i64 x.uid)).setCell ⟨R,4,none⟩ (.int .i64 x.gid)).setCell ⟨R,5,none⟩ (.int .i64 L)).setCell ⟨R,6,none⟩ (.int .i64 Z)):=⟨_,rfl⟩
 have hXR:X.heap[R]?=some (.cells #[I n,I x.kind,I x.mode,I x.uid,I x.gid,I L,I Z] 33):=by
  rw [hX,heap_set (heap_set (heap_set (heap_set (heap_set (heap_set (heap_set (W:=w2.drewN k3) (unhide HR2) 0 _) 1 _) 2 _) 3 _) 4 _) 5 _) 6 _]
  rfl
 have hXB:Below R W X:=by
  rw [hX]
  exact ((((((((below_dn (unhide HB2) k3).setCell (p:=⟨R,0,none⟩) (Nat.le_refl _) _).setCell (p:=⟨R,1,none⟩) (Nat.le_refl _) _).setCell (p:=⟨R,2,none⟩) (Nat.le_refl _) _).setCell (p:=⟨R,3,none⟩) (Nat.le_refl _) _).setCell (p:=⟨R,4,none⟩) (Nat.le_refl _) _).setCell (p:=⟨R,5,none⟩) (Nat.le_refl _) _).setCell (p:=⟨R,6,none⟩) (Nat.le_refl _) _)
 rw [← hX]
 clear hX
 obtain ⟨x0,x1,x2,x3,x4,x5,x6,xf⟩:=cells7 hXR
 go_wp2_with fail
 refine bodyPost_ret (v:=.tuple #[.agg #[I n,I x.kind,I x.mode,I x.uid,I x.gid,I L,I Z],.bool true]) ?_ rfl ?_
 ·rw [results_cell_tmp rfl]
  go_simp
 ·exact ⟨rfl,by rw [unhide HRR];exact hXB⟩
theorem stat_none (h:TrI lo N W t T q p nb ev) {n:Int} (hn:(kl n).wf=true) (hx:T.nd n=none) :
  Calls Tryz.prog 37 #[P0 t,I n] W fun e w'=>e=.returned (.tuple #[stat0,.bool false])∧Below W.heap.size W w':=by
 obtain ⟨c0,c1,c2,c3,cf⟩:=h.cells
 have hl:=fun o=>(h.below ((Below.refl _ W).alloc (Nat.le_refl _) o)).look_ok hn
 rw [hx] at hl
 simp only [Option.isSome_none,Bool.false_eq_true,if_false] at hl
 have htl:=lt_of_heap h.ht
 clear h hx c0 c1 c3
 go_enter Tryz.func37,Tryz.ntmps37
 go_wp2_with fail
 obtain ⟨X,hX⟩:∃ X,X=W.alloc (Obj.cells #[Value.int IntKind.i64 0,Value.int IntKind.i64 0,Value.int IntKind.i64 0,Value.int IntKind.i64 0,Value.int IntKind.i64 0,Value.int IntKind.i64 0,Value.int IntKind.i64 0] 33):=⟨_,rfl⟩
 have hXR:X.heap[W.heap.size]?=some (.cells #[Value.int IntKind.i64 0,Value.int IntKind.i64 0,Value.int IntKind.i64 0,Value.int IntKind.i64 0,Value.int IntKind.i64 0,Value.int IntKind.i64 0,Value.int IntKind.i64 0] 33):=by rw [hX];exact heap_alloc_new W _
 have hXB:Below W.heap.size W X:=by rw [hX];exact (Below.refl _ W).alloc (Nat.le_refl _) _
 rw [← hX]
 clear hX hl
 obtain ⟨x0,x1,x2,x3,x4,x5,x6,xf⟩:=cells7 hXR
 refine bodyPost_ret (v:=.tuple #[stat0,.bool false]) ?_ rfl ⟨rfl,hXB⟩
 rw [results_cell_tmp rfl]
 go_simp
 rfl
theorem stat_any (h:TrI lo N W t T q p nb ev) (hw:Wk B T) (hB:B≤900) {n:Int} (hn:(kl n).wf=true) :
  Calls Tryz.prog 37 #[P0 t,I n] W fun e w'=>e=.returned (.tuple #[T.stat n,.bool (T.nd n).isSome])∧Below W.heap.size W w':=by
 unfold Tr.stat
 cases hx:T.nd n with
 | none=>exact stat_none h hn hx
 | some x=>exact stat_some h hw hB hx
end
open Go.RowKit Go.Maps
theorem Tr.stat_form (T:Tr) (n:Int):∃ a b c d e f g,T.stat n=stV a b c d e f g:=by
 simp only [Tr.stat]
 split
 ·exact ⟨_,_,_,_,_,_,_,rfl⟩
 ·exact ⟨_,_,_,_,_,_,_,rfl⟩
structure Tq (lo N:Nat) (W:World) (t:Nat) (T:Tr) (B:Nat):Prop where
 p:Tp lo N W t T
 f:Wf B T
section
variable {lo N:Nat} {W W':World} {t:Nat} {T:Tr} {B:Nat}
theorem Tq.below (h:Tq lo N W t T B) (g:Below W.heap.size W W'):Tq lo N W' t T B:=⟨h.p.below g,h.f⟩
theorem Tq.lo_le (h:Tq lo N W t T B):lo≤W.heap.size:=h.p.lo_le
theorem Tq.mono (h:Tq lo N W t T B) {B':Nat} (hb:B≤B'):Tq lo N W t T B':=⟨h.p,h.f.mono hb⟩
theorem Tq.tb (h:Tq lo N W t T B) (g:Below W.heap.size W W'):Tq lo N W' t T B∧Tx lo W W':=⟨h.below g,.of_below g h.lo_le⟩
theorem Tq.wf (h:Tq lo N W t T B) {n:Int} (hB:B≤880) {x:Nd} (hx:T.nd n=some x):(kl n).wf=true:=h.f.k.wf (by omega) hx
theorem new_Q (nodes blocks:Nat) (hn:1≤nodes∧nodes≤64) (hb:blocks≤256) (w:World) :
  Calls Tryz.prog 16 #[I (nodes:Int),I (blocks:Int)] w fun e w'=>∃ t,e=.returned (.tuple #[P0 t,I 0])∧Hid (Tq w.heap.size blocks w' t (Tr.new nodes blocks) 1)∧Hid (Below w.heap.size w w') :=
 (new_good' nodes blocks hn hb w).mono fun _ _ ⟨t,h1,h2,h3⟩=>⟨t,h1,⟨h2,Wf.new _ _ (Tr.new_wk nodes blocks hn)⟩,h3⟩
theorem make_Q (h:Tq lo N W t T B) (hB:B≤880) {dir:Int} (hn:(kl dir).wf=true) (s:ByteArray) (a kind mode uid gid f g:Int) (text:ByteArray) (hz:text.size≤281474976710656) (x y:Int) (T':Tr) (hx:T.makeN dir s kind text=x) (hy:T.makeE dir s kind text=y) (hT:T.make dir s kind mode uid gid text=T') :
  Calls Tryz.prog 62 #[P0 t,I dir,.string s,stV a kind mode uid gid f g,.string text] W fun e w'=>e=.returned (.tuple #[I x,I y])∧Hid (Tq lo N w' t T' (B + 2))∧Hid (Tx lo W w'):=by
 obtain ⟨⟨q,p,nb,ev,h1⟩,h2⟩:=h
 refine (make_any h1 h2.k (by omega) hn s a kind mode uid gid f g text hz).mono ?_
 rintro e w' ⟨rfl,h3,h4⟩
 rw [hx,hy]
 have:=h2.make dir s kind mode uid gid text hz
 rw [hT] at this h3
 exact ⟨rfl,⟨h3,this⟩,h4⟩
theorem part_Q (h:Tq lo N W t T B) (hB:B≤880) {dir:Int} (hn:(kl dir).wf=true) (s:ByteArray) (y:Int) (T':Tr) (hy:T.partE dir s=y) (hT:T.part dir s=T') :
  Calls Tryz.prog 64 #[P0 t,I dir,.string s] W fun e w'=>e=.returned (I y)∧Hid (Tq lo N w' t T' B)∧Hid (Tx lo W w'):=by
 obtain ⟨⟨q,p,nb,ev,h1⟩,h2⟩:=h
 refine (part_any h1 h2.k (by omega) hn s (fun d hd e=>h2.noself hd (getE_some e))).mono ?_
 rintro e w' ⟨rfl,h3,h4⟩
 rw [hy]
 have:=h2.part dir s
 rw [hT] at this h3
 exact ⟨rfl,⟨h3,this⟩,h4⟩
theorem hold_Q (h:Tq lo N W t T B) (hB:B≤880) {n:Int} (hn:(kl n).wf=true) (y:Int) (T':Tr) (hy:T.holdE n=y) (hT:T.hold n=T') :
  Calls Tryz.prog 63 #[P0 t,I n] W fun e w'=>e=.returned (I y)∧Hid (Tq lo N w' t T' (B + 1))∧Hid (Tx lo W w'):=by
 obtain ⟨⟨q,p,nb,ev,h1⟩,h2⟩:=h
 refine (hold_any h1 hn (fun x hx=>by have:=(h2.k.bnd n x hx).2.1;omega)).mono ?_
 rintro e w' ⟨rfl,ev',h3,h4⟩
 rw [hy]
 have:=h2.hold n
 rw [hT] at this h3
 exact ⟨rfl,⟨⟨q,p,nb,ev',h3⟩,this⟩,h4⟩
theorem stat_Q (h:Tq lo N W t T B) (hB:B≤880) {n:Int} (hn:(kl n).wf=true) (v:Value) (f:Bool) (hx:T.stat n=v) (hf:(T.nd n).isSome=f) :
  Calls Tryz.prog 37 #[P0 t,I n] W fun e w'=>e=.returned (.tuple #[v,.bool f])∧Hid (Tq lo N w' t T B)∧Hid (Below W.heap.size W w'):=by
 have h':=h
 obtain ⟨⟨q,p,nb,ev,h1⟩,h2⟩:=h
 refine (stat_any h1 h2.k (by omega) hn).mono ?_
 rintro e w' ⟨rfl,h3⟩
 rw [hx,hf]
 exact ⟨rfl,h'.below h3,h3⟩
theorem Tx.fst {u v:World} (h:Tx lo u v) {w:World} {B0:Nat} (g:Below B0 w u) (hb:B0≤lo):Below B0 w v:=g.trans (h.bel.mono hb)
end
open Go.RowKit Go.Maps
section
variable {lo N:Nat} {W W':World} {t:Nat} {T:Tr} {q p:Nat} {nb:Int→Nat} {ev:Int→Value} {B:Nat}
theorem join_any (h:TrI lo N W t T q p nb ev) (hw:Wk B T) (hB:B≤890) {dir n:Int} (hn:(kl dir).wf=true) (hnn:(kl n).wf=true) (s:ByteArray) :
  Calls Tryz.prog 66 #[P0 t,I dir,.string s,I n] W fun e w'=>e=.returned (I (T.joinE dir s n))∧Tp lo N w' t (T.join dir s n)∧Tx lo W w':=by
 have hlo:=h.bd.2.2.1
 have HTp:Hid (∀ w,Below W.heap.size W w→Tp lo N w t T∧Tx lo W w):=fun w hb=>⟨⟨q,p,nb,ev,h.below hb⟩,.of_below hb hlo⟩
 have HD:=hide (dirB h hn)
 have HR:=hide (right_any s)
 have hb0:=hide (Below.refl W.heap.size W)
 have HC:Hid (∀ w,Below W.heap.size W w→w.cell? ⟨t,2,none⟩=some (.map (some q))∧(Instr.lookup 123 (.map (some q)) (I n) true).run Tryz.prog w=.ok (.tuple #[(if (T.nd n).isSome=true then P0 (nb n) else .pointer none),.bool (T.nd n).isSome]) w):=fun w hb=>⟨(h.below hb).cells.2.2.1,(h.below hb).look_ok hnn⟩
 obtain ⟨rt,hrt⟩:∃ rt,rt=right s:=⟨_,rfl⟩
 rw [← hrt] at HR
 have no:T.joinE dir s n≠0→T.join dir s n=T:=fun hE=>by rw [Tr.join,if_neg hE]
 cases hx:T.dir dir with
 | none =>
  have e1:T.joinE dir s n=1:=by simp [Tr.joinE,hx]
  rw [no (by rw [e1];decide),e1]
  rw [hx] at HD
  obtain ⟨pv,hpv⟩:∃ pv,pv=(if (T.nd dir).isSome=true then P0 (nb dir) else Value.pointer none):=⟨_,rfl⟩
  obtain ⟨pn,hpn⟩:∃ pn,pn=(if (T.nd n).isSome=true then P0 (nb n) else Value.pointer none):=⟨_,rfl⟩
  obtain ⟨lv,hlv⟩:∃ lv,lv=(T.nd n).isSome:=⟨_,rfl⟩
  rw [← hpv] at HD
  rw [← hpn,← hlv] at HC
  clear h hw hx e1 hpv hpn hlv no
  go_enter Tryz.func66,Tryz.ntmps66
  go_wp2_with (go_at_call 116;refine (unhide HD _ (unhide hb0)).mono ?_;rintro e w1 ⟨rfl,hb1⟩;obtain ⟨f1,f2⟩:=unhide HC w1 (unhide hb1))
  go_ret
  exact ⟨rfl,unhide HTp _ (unhide hb1)⟩
 | some d =>
  obtain ⟨hd,hk1⟩:=Tr.dir_some.1 hx
  rw [hx,hd] at HD
  simp only [Option.isSome_some,if_true] at HD
  cases hy:T.nd n with
  | none =>
   have e1:T.joinE dir s n=1:=by simp [Tr.joinE,hx,hy]
   rw [no (by rw [e1];decide),e1]
   rw [hy] at HC
   simp only [Option.isSome_none,Bool.false_eq_true,if_false] at HC
   obtain ⟨b,hbb⟩:∃ b,b=nb dir:=⟨_,rfl⟩
   rw [← hbb] at HD
   clear h hw hx e1 hbb no hd hk1 hy
   go_enter Tryz.func66,Tryz.ntmps66
   go_wp2_with (go_at_call 116;refine (unhide HD _ (unhide hb0)).mono ?_;rintro e w1 ⟨rfl,hb1⟩;obtain ⟨f1,f2⟩:=unhide HC w1 (unhide hb1))
   go_ret
   exact ⟨rfl,unhide HTp _ (unhide hb1)⟩
  | some x =>
   rw [hy] at HC
   simp only [Option.isSome_some,if_true] at HC
   have HC2:Hid (∀ w,Below W.heap.size W w→w.cell? ⟨nb n,0,none⟩=some (I x.kind)):=fun w hb=>by
    obtain ⟨d0,-⟩:=ndcells ((h.below hb).hn n x hy).1
    exact d0
   have HRF:Hid (∀ w,Below W.heap.size W w→Calls Tryz.prog 123 #[P0 (nb dir),.string s] w fun e w'=>e=.returned (I (refusesE d s))∧Hid (Below W.heap.size W w')):=fun w hb =>
    (refuses_any ((h.below hb).hn dir d hd).1 ((h.below hb).hn dir d hd).2 (hw.srt dir d hd) (by have:=(hw.bnd dir d hd).2.2;omega) s).mono fun e w' ⟨h1,h2⟩=>⟨h1,hb.trans (h2.mono hb.size)⟩
   have HLK:Hid (∀ w,Below W.heap.size W w→Calls Tryz.prog 108 #[P0 t,P0 (nb n)] w fun e w'=>e=.returned (I (T.links x:Nat))∧Hid (Below W.heap.size W w')):=fun w hb =>
    (links_any (h.below hb) hw (by omega) hy).mono fun e w' ⟨h1,h2⟩=>⟨h1,hb.trans (h2.mono hb.size)⟩
   have HG:Hid (∀ w,Below W.heap.size W w→x.kind≠1→right s=true→Calls Tryz.prog 124 #[P0 t,I dir,.string s,I n] w fun e w'=>e=.returned (.tuple #[])∧Hid (Tp lo N w' t (T.give dir s n)∧Tx lo W w')):=fun w hb hk hr=>by
    have hdn:dir≠n:=fun e=>by subst e;rw [hd] at hy;cases hy;exact hk hk1
    refine (give_any (h.below hb) hn hnn hd hy hdn (hw.srt dir d hd) (by have:=(hw.bnd dir d hd).2.2;omega) (by have:=(hw.bnd n x hy).1;omega) s (by have:=right_size hr;omega)).mono ?_
    rintro e w' ⟨h1,ev',h2,h3⟩
    exact ⟨h1,⟨q,p,nb,ev',h2⟩,(Tx.of_below hb hlo).trans h3⟩
   have hE:T.joinE dir s n=if x.kind≠1∧right s=true then (if refusesE d s≠0 then refusesE d s else if T.links x=16 then 44 else 0) else 1:=by simp [Tr.joinE,hx,hy]
   have yes:T.joinE dir s n=0→T.join dir s n=T.give dir s n:=fun e=>by rw [Tr.join,if_pos e]
   obtain ⟨rf,hrf⟩:∃ rf,rf=refusesE d s:=⟨_,rfl⟩
   obtain ⟨lk,hlk⟩:∃ lk,lk=T.links x:=⟨_,rfl⟩
   obtain ⟨E,hEE⟩:∃ E,E=T.joinE dir s n:=⟨_,rfl⟩
   obtain ⟨b,hbb⟩:∃ b,b=nb dir:=⟨_,rfl⟩
   obtain ⟨bn,hbn⟩:∃ bn,bn=nb n:=⟨_,rfl⟩
   obtain ⟨kd,hkd⟩:∃ kd,kd=x.kind:=⟨_,rfl⟩
   rw [← hrf] at HRF hE
   rw [← hlk] at HLK hE
   rw [← hEE] at hE no yes ⊢
   rw [← hrt] at hE HG
   rw [← hbb] at HD HRF
   rw [← hbn] at HC HC2 HLK
   rw [← hkd] at HC2 HG hE
   clear h hw hx hd hk1 hy hrf hlk hEE hbb hbn hkd hrt
   by_cases k1:kd=1
   ·subst k1
    simp at hE
    subst hE
    rw [no (by decide)]
    clear HG yes no
    go_enter Tryz.func66,Tryz.ntmps66
    go_wp2_with (go_at_call 116;refine (unhide HD _ (unhide hb0)).mono ?_;rintro e w1 ⟨rfl,hb1⟩;obtain ⟨f1,f2⟩:=unhide HC w1 (unhide hb1);have f3:=unhide HC2 w1 (unhide hb1))
    go_ret
    exact ⟨rfl,unhide HTp _ (unhide hb1)⟩
   ·cases rt with
    | false =>
     simp at hE
     subst hE
     rw [no (by decide)]
     clear HG yes no
     go_enter Tryz.func66,Tryz.ntmps66
     go_wp2_with (first | (go_at_call 116;refine (unhide HD _ (unhide hb0)).mono ?_;rintro e w1 ⟨rfl,hb1⟩;obtain ⟨f1,f2⟩:=unhide HC w1 (unhide hb1);have f3:=unhide HC2 w1 (unhide hb1)) | (go_at_call 121;refine (unhide HR _).mono ?_;rintro e w' ⟨rfl,rfl⟩))
     go_ret
     exact ⟨rfl,unhide HTp _ (unhide hb1)⟩
    | true =>
     simp only [ne_eq,k1,not_false_eq_true,and_self,if_true] at hE
     by_cases h3:rf=0
     ·subst h3
      simp only [not_true_eq_false,if_false] at hE
      by_cases h5:lk=16
      ·subst h5
       simp at hE
       subst hE
       rw [no (by decide)]
       clear HG yes no
       go_enter Tryz.func66,Tryz.ntmps66
       go_wp2_with (first | (go_at_call 116;refine (unhide HD _ (unhide hb0)).mono ?_;rintro e w1 ⟨rfl,hb1⟩;obtain ⟨f1,f2⟩:=unhide HC w1 (unhide hb1);have f3:=unhide HC2 w1 (unhide hb1)) | (go_at_call 121;refine (unhide HR _).mono ?_;rintro e w' ⟨rfl,rfl⟩) | (go_at_call 123;refine (unhide HRF _ (unhide hb1)).mono ?_;rintro e w2 ⟨rfl,hb2⟩) | (go_at_call 108;refine (unhide HLK _ (unhide hb2)).mono ?_;rintro e w3 ⟨rfl,hb3⟩))
       go_ret
       exact ⟨rfl,unhide HTp _ (unhide hb3)⟩
      ·have h5i:¬ ((lk:Int)=16):=by omega
       rw [if_neg h5] at hE
       subst hE
       rw [yes rfl]
       have HG2:=hide (fun w hb=>unhide HG w hb k1 rfl)
       clear HG yes no
       go_enter Tryz.func66,Tryz.ntmps66
       go_wp2_with (first | (go_at_call 116;refine (unhide HD _ (unhide hb0)).mono ?_;rintro e w1 ⟨rfl,hb1⟩;obtain ⟨f1,f2⟩:=unhide HC w1 (unhide hb1);have f3:=unhide HC2 w1 (unhide hb1)) | (go_at_call 121;refine (unhide HR _).mono ?_;rintro e w' ⟨rfl,rfl⟩) | (go_at_call 123;refine (unhide HRF _ (unhide hb1)).mono ?_;rintro e w2 ⟨rfl,hb2⟩) | (go_at_call 108;refine (unhide HLK _ (unhide hb2)).mono ?_;rintro e w3 ⟨rfl,hb3⟩) | (go_at_call 124;refine (unhide HG2 _ (unhide hb3)).mono ?_;rintro e w4 ⟨rfl,FF⟩))
       go_ret
       exact ⟨rfl,unhide FF⟩
     ·rw [if_pos h3] at hE
      subst hE
      rw [no h3]
      clear HG yes no
      go_enter Tryz.func66,Tryz.ntmps66
      go_wp2_with (first | (go_at_call 116;refine (unhide HD _ (unhide hb0)).mono ?_;rintro e w1 ⟨rfl,hb1⟩;obtain ⟨f1,f2⟩:=unhide HC w1 (unhide hb1);have f3:=unhide HC2 w1 (unhide hb1)) | (go_at_call 121;refine (unhide HR _).mono ?_;rintro e w' ⟨rfl,rfl⟩) | (go_at_call 123;refine (unhide HRF _ (unhide hb1)).mono ?_;rintro e w2 ⟨rfl,hb2⟩))
      go_ret
      exact ⟨rfl,unhide HTp _ (unhide hb2)⟩
end
end Go.Proofs.YtlngeaacjbdmhaaGreat
