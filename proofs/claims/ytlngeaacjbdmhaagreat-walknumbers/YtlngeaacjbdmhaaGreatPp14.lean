/-
 The contracts of the small functions: Index,Contains and Cut at one byte,Clone,Dots.
-/
import Derived.Test.YtlngeaacjbdmhaaGreatPp13
import Derived.Test.YtlngeaacjbdmhaaGreatPp02
import Derived.Deep.Draws
import Derived.Lib.Bytealg
import Derived.Lib.Strings
import Derived.Laws.Strings3
import Derived.Lib.Builder
import Derived.Lib.AppendStr
import Derived.Lib.UnsafeStr
import Derived.Laws.Externs
import Derived.Test.YtlngeaacjbdmhaaGreatPp04
import Derived.Shelf.Abstract
import Derived.Shelf.RegionOpen
import Derived.OwnWalkIn
import Derived.TacticsInMore
import Derived.LoopNIn
import Derived.LoopIn
set_option maxRecDepth 100000
set_option maxHeartbeats 2000000
namespace Go.Proofs.YtlngeaacjbdmhaaGreat.Nm
open Go.RowKit
attribute [local go_sem ↓] Go.wp_at_zero Go.wp_at_succ
theorem index_one (s:ByteArray) (c:UInt8) (w:World) :
  Calls Tryz.prog 299 #[.string s,.string ⟨#[c]⟩] w fun e w'=>e=.returned (.int .i64 (Lib.indexByte s.data.toList c))∧w'=w:=by
 go_enter Tryz.func299,Tryz.ntmps299
 go_wp2_with (go_at_call 316;refine (Tryz.stringslite_IndexByte _ _ _).mono ?_;rintro e w' ⟨rfl,rfl⟩)
 ·have h:([c] == s.toList)=true:=by assumption
  go_ret
  refine ⟨?_,rfl⟩
  have e:s.data.toList=[c]:=by rw [← Lib.toList_data];exact (beq_iff_eq.1 h).symm
  rw [e]
  simp [Lib.indexByte]
 ·go_ret
  exact ⟨rfl,rfl⟩
theorem index2_one (s:ByteArray) (c:UInt8) (w:World) :
  Calls Tryz.prog 277 #[.string s,.string ⟨#[c]⟩] w fun e w'=>e=.returned (.int .i64 (Lib.indexByte s.data.toList c))∧w'=w:=by
 go_enter Tryz.func277,Tryz.ntmps277
 go_wp2_with (go_at_call 299;refine (index_one _ _ _).mono ?_;rintro e w' ⟨rfl,rfl⟩)
 go_ret
 exact ⟨rfl,rfl⟩
theorem indexByte_mem (l:List UInt8) (c:UInt8):(0≤Lib.indexByte l c) ↔ c ∈ l:=by
 induction l with
 | nil=>simp [Lib.indexByte]
 | cons b r ih =>
  have hg:=Lib.indexByte_ge r c
  unfold Lib.indexByte
  by_cases hb:b=c
  ·subst hb;simp
  ·have hb2:¬ c=b:=Ne.symm hb
   by_cases h1:Lib.indexByte r c=-1
   ·have:c ∉ r:=by rw [← ih];omega
    simp [hb,h1,hb2,this]
   ·have:c ∈ r:=by rw [← ih];omega
    simp [hb,h1,this];omega
theorem contains_one (s:ByteArray) (c:UInt8) (w:World) :
  Calls Tryz.prog 211 #[.string s,.string ⟨#[c]⟩] w fun e w'=>e=.returned (.bool (decide (c ∈ s.data.toList)))∧w'=w:=by
 go_enter Tryz.func211,Tryz.ntmps211
 go_wp2_with (go_at_call 277;refine (index2_one _ _ _).mono ?_;rintro e w' ⟨rfl,rfl⟩)
 go_ret
 refine ⟨?_,rfl⟩
 have:=indexByte_mem s.data.toList c
 simp only [this]
 rfl
theorem index_before (l:List UInt8) (h:(47:UInt8) ∈ l):Lib.indexByte l 47=((before l).length:Int):=by
 induction l with
 | nil=>simp at h
 | cons b r ih =>
  unfold Lib.indexByte
  by_cases hb:b=47
  ·subst hb;simp [before]
  ·have e1:before (b :: r)=b :: before r:=by simp [before,hb]
   have hr:(47:UInt8) ∈ r:=by
    rcases List.mem_cons.1 h with h | h
    ·exact absurd h.symm hb
    ·exact h
   rw [e1,ih hr]
   have:¬ (((before r).length:Int)=-1):=by omega
   simp [hb,this]
theorem cut_take {l:List UInt8} (h:(47:UInt8) ∈ l):l.take (before l).length=before l∧l.drop ((before l).length + 1)=behind l∧(before l).length + 1≤l.length:=by
 rcases split_at l with ⟨h1,_,_⟩ | h1
 ·exact absurd h h1
 ·generalize before l=x at h1 ⊢
  generalize behind l=y at h1 ⊢
  subst h1
  simp
theorem extract_bs (l:List UInt8) (a b:Nat):(bs l).extract a b=bs ((l.drop a).take (b - a)):=by
 apply ByteArray.ext
 simp [ByteArray.data_extract,List.extract_eq_drop_take']
theorem cut_no (l:List UInt8) (h:(47:UInt8) ∉ l) (w:World) :
  Calls Tryz.prog 312 #[S l,.string ⟨#[47]⟩] w fun e w'=>e=.returned (.tuple #[S l,S [],.bool false])∧∃ n,w'=w.drewN n:=by
 have hg:=Lib.indexByte_ge l 47
 have hm:=indexByte_mem l 47
 have hix:Lib.indexByte l 47=-1:=by
  have:¬ 0≤Lib.indexByte l 47:=by rw [hm];exact h
  omega
 go_enter Tryz.func312,Tryz.ntmps312
 go_wp2_with (go_at_call 299;refine (index_one _ _ _).mono ?_;rintro e w' ⟨rfl,rfl⟩;rw [show Lib.indexByte (bs l).data.toList 47=_ from hix])
 go_ret3
 exact ⟨rfl,0,rfl⟩
theorem cut_yes (l:List UInt8) (h:(47:UInt8) ∈ l) (w:World) (hl:l.length≤9223372036854775807) :
  Calls Tryz.prog 312 #[S l,.string ⟨#[47]⟩] w fun e w'=>e=.returned (.tuple #[S (before l),S (behind l),.bool true])∧∃ n,w'=w.drewN n:=by
 have hix:=index_before l h
 obtain ⟨t1,t2,t3⟩:=cut_take h
 have hsz:(bs l).size=l.length:=by simp [ByteArray.size]
 generalize hi:(before l).length=i at *
 have c1:(0:Int)≤(i:Int):=by omega
 have c2:(i:Int)≤((bs l).size:Int):=by omega
 have c3:(0:Int)≤(i:Int) + 1:=by omega
 have c4:((i:Int) + 1)≤((bs l).size:Int):=by omega
 have X1:=hide ((extract_bs l 0 i).trans (by rw [List.drop_zero,Nat.sub_zero,t1]))
 have X2:=hide ((extract_bs l (i + 1) l.length).trans (by rw [t2,List.take_of_length_le];rw [← t2,List.length_drop];exact Nat.le_refl _))
 clear t1 t2 hi
 go_enter Tryz.func312,Tryz.ntmps312
 go_wp2_with (go_at_call 299;refine (index_one _ _ _).mono ?_;rintro e w' ⟨rfl,rfl⟩;rw [show Lib.indexByte (bs l).data.toList 47=_ from hix])
 go_region
 go_wp2
 go_ret3
 refine ⟨?_,1,rfl⟩
 rw [unhide X1,unhide X2]
 rfl
theorem cut_any (l:List UInt8) (w:World) (hl:l.length≤9223372036854775807) :
  Calls Tryz.prog 290 #[S l,.string ⟨#[47]⟩] w fun e w'=>(∃ f,e=.returned (.tuple #[S (before l),S (behind l),.bool f]))∧∃ n,w'=w.drewN n:=by
 have H:Calls Tryz.prog 312 #[S l,.string ⟨#[47]⟩] w fun e w'=>∃ f,e=.returned (.tuple #[S (before l),S (behind l),.bool f])∧∃ n,w'=w.drewN n:=by
  by_cases h:(47:UInt8) ∈ l
  ·exact (cut_yes l h w hl).mono fun _ _ ⟨h1,h2⟩=>⟨_,h1,h2⟩
  ·rcases split_at l with ⟨_,h2,h3⟩ | h2
   ·rw [h2,h3]
    exact (cut_no l h w).mono fun _ _ ⟨h1,h2⟩=>⟨_,h1,h2⟩
   ·exact absurd (by rw [h2];simp) h
 have H:=hide H
 go_enter Tryz.func290,Tryz.ntmps290
 go_wp2_with (go_at_call 312;refine (unhide H).mono ?_;rintro e w' ⟨f,rfl,n,rfl⟩)
 go_ret3
 exact ⟨⟨f,rfl⟩,n,rfl⟩
theorem clone_any (s:ByteArray) (w:World) (hs:s.size≤281474976710656) :
  Calls Tryz.prog 119 #[.string s] w fun e w'=>e=.returned (.string s)∧Below w.heap.size w w':=by
 go_enter Tryz.func119,Tryz.ntmps119
 go_wp2_with (go_at_call 209;refine (Tryz.stringslite_Clone _ _ hs).mono ?_;rintro e w' ⟨rfl,hB⟩)
 go_ret
 exact ⟨rfl,hB⟩
def dots (l:List UInt8):Bool:=l == [46] || l == [46,46]
theorem dots_any (l:List UInt8) (w:World):Calls Tryz.prog 210 #[S l] w fun e w'=>e=.returned (.bool (dots l))∧w'=w:=by
 go_enter Tryz.func210,Tryz.ntmps210
 go_wp2
 all_goals (go_ret;refine ⟨?_,rfl⟩;simp_all [dots])
def ref1 (l:List UInt8):Int:=if l=[] then 32 else if 4096 < l.length then 45 else if (0:UInt8) ∈ l then 39 else 0
theorem refusal_any (l:List UInt8) (w:World):Calls Tryz.prog 228 #[S l] w fun e w'=>e=.returned (.int .i64 (ref1 l))∧w'=w:=by
 unfold ref1
 by_cases h1:l=[]
 ·rw [if_pos h1];subst h1
  go_enter Tryz.func228,Tryz.ntmps228
  go_wp2
  go_ret
  exact ⟨rfl,rfl⟩
 ·rw [if_neg h1]
  have h0:l.isEmpty=false:=by simpa using h1
  by_cases h2:4096 < l.length
  ·rw [if_pos h2]
   have h3:(4096:Int) < (l.length:Int):=by omega
   go_enter Tryz.func228,Tryz.ntmps228
   go_wp2
   all_goals (go_ret;refine ⟨?_,rfl⟩;first | rfl | simp_all)
  ·rw [if_neg h2]
   have h3:¬ (4096:Int) < (l.length:Int):=by omega
   by_cases h4:(0:UInt8) ∈ l
   ·rw [if_pos h4]
    have h5:decide ((0:UInt8) ∈ (bs l).data.toList)=true:=by simpa using h4
    go_enter Tryz.func228,Tryz.ntmps228
    go_wp2_with (go_at_call 211;refine (contains_one _ _ _).mono ?_;rintro e w' ⟨rfl,rfl⟩)
    all_goals (go_ret;refine ⟨?_,rfl⟩;first | rfl | simp_all)
   ·rw [if_neg h4]
    have h5:decide ((0:UInt8) ∈ (bs l).data.toList)=false:=by simpa using h4
    go_enter Tryz.func228,Tryz.ntmps228
    go_wp2_with (go_at_call 211;refine (contains_one _ _ _).mono ?_;rintro e w' ⟨rfl,rfl⟩)
    all_goals (go_ret;refine ⟨?_,rfl⟩;first | rfl | simp_all)
def right (l:List UInt8):Bool:=!(l.isEmpty || decide (255 < l.length) || dots l) && (!decide ((47:UInt8) ∈ l) && !decide ((0:UInt8) ∈ l))
theorem right_any (l:List UInt8) (w:World):Calls Tryz.prog 121 #[S l] w fun e w'=>e=.returned (.bool (right l))∧w'=w:=by
 by_cases hd:dots l=true
 ·have hr:right l=false:=by simp [right,hd]
  rw [hr]
  go_enter Tryz.func121,Tryz.ntmps121
  go_wp2_with (first | (go_at_call 211;refine (contains_one _ _ _).mono ?_;rintro e w' ⟨rfl,rfl⟩) | (go_at_call 210;refine (dots_any _ _).mono ?_;rintro e w' ⟨rfl,rfl⟩;rw [hd]))
  all_goals (go_ret;exact ⟨rfl,rfl⟩)
 ·replace hd:dots l=false:=by simpa using hd
  by_cases h0:l=[]
  ·have hr:right l=false:=by simp [right,h0]
   rw [hr];subst h0
   go_enter Tryz.func121,Tryz.ntmps121
   go_wp2_with fail
   go_ret;exact ⟨rfl,rfl⟩
  ·have h1:l.isEmpty=false:=by simpa using h0
   by_cases h2:255 < l.length
   ·have hr:right l=false:=by simp [right,h2]
    have h3:(255:Int) < (l.length:Int):=by omega
    rw [hr]
    go_enter Tryz.func121,Tryz.ntmps121
    go_wp2_with fail
    all_goals (go_ret;refine ⟨?_,rfl⟩;first | rfl | simp_all)
   ·have hr:right l=(!decide ((47:UInt8) ∈ l) && !decide ((0:UInt8) ∈ l)):=by simp [right,h2,hd,h1]
    have h3:¬ (255:Int) < (l.length:Int):=by omega
    rw [hr]
    clear hr
    go_enter Tryz.func121,Tryz.ntmps121
    go_wp2_with (first | (go_at_call 211;refine (contains_one _ _ _).mono ?_;rintro e w' ⟨rfl,rfl⟩) | (go_at_call 210;refine (dots_any _ _).mono ?_;rintro e w' ⟨rfl,rfl⟩;rw [hd]))
    all_goals (go_ret;refine ⟨?_,rfl⟩;first | rfl | simp_all)
attribute [local go_sem ↓] Go.wp_at_zero Go.wp_at_succ
theorem size54:(Tryz.prog.info? 335).map (fun i=>i.size)=some 2:=by kernel_rfl
theorem check_used (b:Nat) (w:World) (h0:w.cell? ⟨b,0,none⟩=some (.pointer (some ⟨b,0,none⟩))) :
  Calls Tryz.prog 327 #[.pointer (some ⟨b,0,none⟩)] w fun e w'=>e=.returned (.tuple #[])∧w'=w:=by
 obtain ⟨j,hj,_⟩:=Option.map_eq_some_iff.1 size54
 go_enter Tryz.func327,Tryz.ntmps327
 go_wp2
 rw [Lib.run_neq_ptr_same w _ Tryz.underlying333 hj]
 go_wp2
 go_end0
 exact ⟨rfl,rfl⟩
theorem check_fresh (b:Nat) (w:World) (h0:w.cell? ⟨b,0,none⟩=some (.pointer none)) (hsh:w.shape? b=some (335,2)) (hfz:w.frozen? ⟨b,0,none⟩=false) :
  Calls Tryz.prog 327 #[.pointer (some ⟨b,0,none⟩)] w fun e w'=>e=.returned (.tuple #[])∧w'=w.setCell ⟨b,0,none⟩ (.pointer (some ⟨b,0,none⟩)):=by
 obtain ⟨j,hj,hjs⟩:=Option.map_eq_some_iff.1 size54
 go_enter Tryz.func327,Tryz.ntmps327
 go_wp2
 rw [Lib.run_to_unsafe w ⟨b,0,none⟩ Tryz.underlying333 Tryz.underlying353 hj (by rw [hjs];decide) hsh (Nat.zero_lt_succ 1)]
 simp only [Result.andThen]
 rw [Oper.upon_value]
 go_wp2
 rw [run_callFunc_extern Tryz.func331 (by kernel_rfl) (by kernel_rfl) (by kernel_rfl) (e:=Extern.AbiNoEscape.same) (by kernel_rfl)]
 rw [Lib.run_noEscape]
 simp only [Result.andThen]
 rw [Oper.upon_value]
 go_wp2
 rw [Lib.run_from_unsafe w ⟨b,0,none⟩ Tryz.underlying353 Tryz.underlying333 hj hsh (by kernel_rfl)]
 simp only [Result.andThen]
 rw [Oper.upon_value]
 go_wp2
 go_end0
 exact ⟨rfl,rfl⟩
theorem check_any (B b:Nat) (xs:List Value) (w:World) (h:Lib.IsBuilder 335 5 B b xs w) :
  Calls Tryz.prog 327 #[.pointer (some ⟨b,0,none⟩)] w fun e w'=>e=.returned (.tuple #[])∧Lib.BuilderAt 335 5 B b (.pointer (some ⟨b,0,none⟩)) xs w'∧Below B w w':=by
 rcases h with h | h
 ·refine (check_fresh b w h.cell0 h.shape h.frozen0).mono ?_
  rintro e w' ⟨rfl,rfl⟩
  exact ⟨rfl,h.used _,(Below.refl B w).setCell (p:=⟨b,0,none⟩) h.1 _⟩
 ·refine (check_used b w h.cell0).mono ?_
  rintro e w' ⟨rfl,rfl⟩
  exact ⟨rfl,h,Below.refl B _⟩
theorem writes_any (B b:Nat) (xs:List Value) (s:ByteArray) (w:World) (h:Lib.IsBuilder 335 5 B b xs w) (hlen:xs.length + s.size≤140737488355328) (hBw:B≤w.heap.size) :
  Calls Tryz.prog 313 #[.pointer (some ⟨b,0,none⟩),.string s] w fun e w'=>e=.returned (.tuple #[.int .i64 s.size,.nilIface])∧Lib.BuilderAt 335 5 B b (.pointer (some ⟨b,0,none⟩)) (xs ++ Lib.strCells s) w'∧Below B w w':=by
 obtain ⟨i0,hi,hz0,hz1,hz2⟩:=info_parts info5
 go_enter Tryz.func313,Tryz.ntmps313
 go_wp2_with (go_at_call 327;refine (check_any B b xs _ h).mono ?_)
 rintro e w1 ⟨rfl,h1,hb1⟩
 obtain ⟨hB,v,hbk,hown,hne⟩:=h1
 have c0:w1.cell? ⟨b,0,none⟩=some (.pointer (some ⟨b,0,none⟩)):=by rw [cell_of hbk];rfl
 have c1:w1.cell? ⟨b,1,none⟩=some v:=by rw [cell_of hbk];rfl
 go_wp2_with (at_builtin;refine Lib.wpList_append_own_string _ rfl _ _ 34 9 rfl B 5 i0 Tryz.underlying34 Tryz.underlying9 hi hz0 hz1 hz2 _ _ _ rfl hown s rfl ?c3 ?c4 ?c5 ?_)
 case c3=>unfold maxLen;omega
 case c4=>omega
 case c5=>have:=hb1.size;omega
 intro v' w2 hown' hgrow _
 have hb2:w2.heap[b]?=some (.cells #[.pointer (some ⟨b,0,none⟩),v] 335 (0,0)):=by
  rw [hgrow.block b (lt_of_heap hbk) (fun e=>hne e.symm)]
  exact hbk
 have d0:w2.cell? ⟨b,0,none⟩=some (.pointer (some ⟨b,0,none⟩)):=by rw [cell_of hb2];rfl
 have d1:w2.cell? ⟨b,1,none⟩=some v:=by rw [cell_of hb2];rfl
 have f1:w2.frozen? ⟨b,1,none⟩=false:=frozen_of hb2 1
 obtain ⟨ao,cap,rfl⟩:=own_form hown'
 go_wp2
 go_ret2
 refine ⟨rfl,?_,?_⟩
 ·exact Lib.BuilderAt.put (T:=335) (e:=5) hB hb2 (bs':=xs ++ Lib.strCells s) (by simpa [Lib.strCells_length] using hown') (by decide)
 ·exact (hb1.grown hgrow (by have:=hb1.size;omega) (fun k hk=>(hown.lt k hk).1)).setCell (p:=⟨b,1,none⟩) hB _
theorem cells_bs (l:List UInt8):Lib.strCells (bs l)=Lib.byteCells l:=by
 simp [Lib.strCells,Lib.byteCells]
theorem byte_app (a b:List UInt8):Lib.byteCells a ++ Lib.byteCells b=Lib.byteCells (a ++ b):=by simp [Lib.byteCells]
theorem byte_len (a:List UInt8):(Lib.byteCells a).length=a.length:=by simp [Lib.byteCells]
theorem write_any (B b:Nat) (a l:List UInt8) (w:World) (h:Lib.IsBuilder 335 5 B b (Lib.byteCells a) w) (hlen:a.length + l.length≤140737488355328) (hBw:B≤w.heap.size) :
  Calls Tryz.prog 313 #[.pointer (some ⟨b,0,none⟩),S l] w fun e w'=>e=.returned (.tuple #[.int .i64 l.length,.nilIface])∧Lib.IsBuilder 335 5 B b (Lib.byteCells (a ++ l)) w'∧Below B w w':=by
 have hsz:(bs l).size=l.length:=by simp [ByteArray.size]
 refine (writes_any B b _ (bs l) w h (by rw [byte_len,hsz];exact hlen) hBw).mono ?_
 rintro e w' ⟨rfl,h1,h2⟩
 rw [cells_bs,byte_app] at h1
 exact ⟨by rw [hsz],.inr h1,h2⟩
open Go.RowKit Go.Shelf
section
variable {n l:Nat} {P:Program} {ops:Array Oper} {Q:Exit→Act→World→Prop} {md:Region.Mode}
def noDefer (o:Oper):Bool:=match o.op with | .defer _=>false | _ =>true
theorem noDefer_spec {o:Oper} (h:noDefer o=true):∀ c,o.op≠.defer c:=by
 intro c hc
 simp [noDefer,hc] at h
theorem uponIn_round {o:Oper} {a:Act} {K:Act→World→Prop} {r:Result Next} (h:o.uponIn Fence.wide n P a K Q r):o.uponIn (Fence.wide.inRound l) n P a K Q r:=by
 cases r with
 | ok x w'=>cases x <;> exact h
 | halt x w'=>cases x <;> exact h
theorem wpOpIn_round {i:Nat} {K:Act→World→Prop} {a:Act} {w:World} (hd:ops.all noDefer=true) (h:wpOpIn Fence.wide n P ops Q i K a w):wpOpIn (Fence.wide.inRound l) n P ops Q i K a w:=by
 unfold wpOpIn at *
 cases ho:ops[i]? with
 | none=>simpa [ho] using h
 | some o =>
  simp only [ho] at h ⊢
  have hn:∀ c,o.op≠.defer c:=noDefer_spec (by
   obtain ⟨hl,he⟩:=Array.getElem?_eq_some_iff.1 ho
   rw [Array.all_eq_true] at hd
   rw [← he];exact hd i hl)
  split
  ·rename_i hw
   simp only [hw,if_true] at h
   refine ⟨fun _ _=>trivial,?_⟩
   have h2:=h.2
   rw [show (Fence.wide.inRound l).round=some l from rfl,Oper.semAt_some _ _ _ hn]
   rw [show Fence.wide.round=none from rfl,Oper.semAt_none] at h2
   exact uponIn_round h2
  ·rename_i hw
   simp only [hw] at h
   exact h
theorem wpAnyIn_round (hd:ops.all noDefer=true):∀ (fuel:Nat) (listed:Array Bool) (a:Act) (w:World),wpAnyIn Fence.wide n P md ops Q fuel listed a w→wpAnyIn (Fence.wide.inRound l) n P md ops Q fuel listed a w
 | 0,_,_,_,h=>h
 | fuel + 1,_,_,_,h=>⟨h.1,fun i hi=>wpOpIn_mono (fun a w hh=>wpAnyIn_round hd fuel _ a w hh) (wpOpIn_round hd (h.2 i hi))⟩
theorem wpIn_region_round {id:Nat} {a:Act} {w:World} (hm:P.follows .mixedOrders=true) (hd:ops.all noDefer=true)
  (h:wpAnyIn Fence.wide n P .any ops Q ops.size (Array.replicate ops.size false) a w.drew):(Code.region id ops true).wpIn (Fence.wide.inRound l) n P Q a w :=
 wpIn_region_any hm (wpAnyIn_round hd _ _ _ _ h)
theorem stepIn_append_eq {w:World} {o:Oper} {a:Act} {K:Act→World→Prop} {E:Prop} (hgd:o.guard=none) (s x:Operand) (t:TypeId)
  (ho:o.op=.call { callee:=.builtin .append,args:=#[s,x],argTypes:=#[t,t] }) (ty:TypeId) (hty:o.type=ty) (vs vx:Value) (hs:a.eval s=vs) (hx:a.eval x=vx) (v':Value) (w':World)
  (hrun:(Builtin.append_ #[t,t] ty #[vs,vx]).run P w=.ok v' w') (h:K (a.put o.dst v') w') :
  if Region.wanted o (yielded ops a.tmps)=true then Oper.wpIn Fence.wide n P o a w K Q else E:=by
 have hw:Region.wanted o (yielded ops a.tmps)=true:=by simp [Region.wanted,hgd]
 rw [if_pos hw]
 refine ⟨fun _ _=>trivial,?_⟩
 rw [show Fence.wide.round=none from rfl,Oper.semAt_none]
 unfold execOp
 simp only [ho,resolve,invoke,builtin,Sem.run_bind,Sem.run_pure,Result.andThen_ok,List.map_toArray,List.map_cons,List.map_nil,hs,hx,hty,hrun]
 exact h
end
theorem grown_keep {W W5:World} {base:Nat} {e:TypeId} {s n k:Nat} {v:Value} {xs:List Value} {o o':Obj} (own:W.ownsRow base e s v n xs) (hg:(W.alloc o').grownBy W5 v.ownBlock) (h:W.heap[k]?=some o) (hne:∀ cur,o≠.cells cur e (0,0)):W5.heap[k]?=some o:=by
 have h3:=hg.block k (by simp;exact Nat.lt_succ_of_lt (lt_of_heap h)) (own_ne own h hne)
 rw [Below.heap_alloc _ _ _ (lt_of_heap h)] at h3
 exact h3.trans h
theorem put_other {W:World} {r r':Loop} {L k:Nat} {o:Obj} (hl:W.heap[L]?=some (.loop r)) (h:W.heap[k]?=some o) (hne:∀ r,o≠.loop r):(W.putObj L (.loop r')).heap[k]?=some o :=
 (World.putObj_heap_other (by rintro rfl;rw [hl] at h;exact hne _ (Option.some.inj h).symm)).trans h
theorem own_put {W:World} {r r':Loop} {L base:Nat} {e:TypeId} {s n:Nat} {v:Value} {xs:List Value} (h:W.ownsRow base e s v n xs) (hl:W.heap[L]?=some (.loop r)):(W.putObj L (.loop r')).ownsRow base e s v n xs :=
 own_keep h fun k cur hc=>(put_other hl hc (by simp)).trans hc.symm
theorem setup (w:World) (r:Loop):((w.alloc (.deferred (some []))).alloc (.loop r)).heap[w.heap.size + 1]?=some (.loop r)∧((w.alloc (.deferred (some []))).alloc (.loop r)).heap[w.heap.size]?=some (.deferred (some []))∧Below w.heap.size w ((w.alloc (.deferred (some []))).alloc (.loop r)) :=
 ⟨putAll _ _ (by simp),(Below.heap_alloc _ _ _ (by simp)).trans (putAll _ _ rfl),((Below.refl _ _).alloc (Nat.le_refl _) _).alloc (by simp) _⟩
theorem two0 (w:World) (o1 o2:Obj):∃ V:World,((w.alloc o1).alloc o2)=V∧V.heap.size=w.heap.size + 2∧V.heap[w.heap.size]?=some o1∧V.heap[w.heap.size + 1]?=some o2∧Below w.heap.size w V:=by
 refine ⟨_,rfl,by simp,?_,?_,?_⟩
 ·rw [Below.heap_alloc _ _ _ (by simp)];exact putAll _ _ rfl
 ·exact putAll _ _ (by simp)
 ·exact ((Below.refl w.heap.size w).alloc (Nat.le_refl _) o1).alloc (by simp) o2
theorem four0 (w:World) (o1 o2 o3 o4:Obj):∃ V:World,(((w.alloc o1).alloc o2).alloc o3).alloc o4=V∧V.heap.size=w.heap.size + 4∧V.heap[w.heap.size]?=some o1∧V.heap[w.heap.size + 1]?=some o2∧V.heap[w.heap.size + 2]?=some o3∧V.heap[w.heap.size + 3]?=some o4∧Below w.heap.size w V:=by
 obtain ⟨V,hV,hs,g0,g1,hB⟩:=two0 w o1 o2
 obtain ⟨V2,hV2,hs2,g2,g3,hB2⟩:=two0 V o3 o4
 rw [hV,hV2]
 rw [hs] at g2 g3 hs2
 exact ⟨V2,rfl,hs2,(hB2.block _ (by omega)).trans g0,(hB2.block _ (by omega)).trans g1,g2,g3,hB.trans (hB2.mono (by omega))⟩
theorem three0 (w:World) (o1 o2 o3:Obj):∃ V:World,((w.alloc o1).alloc o2).alloc o3=V∧V.heap.size=w.heap.size + 3∧V.heap[w.heap.size]?=some o1∧V.heap[w.heap.size + 1]?=some o2∧V.heap[w.heap.size + 2]?=some o3∧Below w.heap.size w V:=by
 obtain ⟨V,hV,hs,g0,g1,hB⟩:=two0 w o1 o2
 rw [hV]
 refine ⟨_,rfl,by simp [hs],(Below.heap_alloc _ _ _ (by omega)).trans g0,(Below.heap_alloc _ _ _ (by omega)).trans g1,putAll _ _ hs.symm,hB.alloc (by omega) o3⟩
attribute [local go_sem ↓] Go.wp_at_zero Go.wp_at_succ
structure WJ (w W:World) (h:Nat) (r s:Bool) (v:Value) (acc:List UInt8):Prop where
 be:Below h w W
 bx:W.heap[h]?=some (.cells #[.bool r,.bool s,v] 234)
 bd:Lib.IsBuilder 335 5 (h + 1) (h + 1) (Lib.byteCells acc) W
theorem WJ.sz {w W:World} {h:Nat} {r s:Bool} {v:Value} {acc:List UInt8} (J:WJ w W h r s v acc):h + 1 < W.heap.size:=by
 rcases J.bd with hb | hb <;> exact hb.lt
theorem WJ.write {w W:World} {h:Nat} {r s:Bool} {v:Value} {acc:List UInt8} (J:WJ w W h r s v acc) (l:List UInt8) (hl:acc.length + l.length≤1000000000) :
  Calls Tryz.prog 313 #[.pointer (some ⟨h + 1,0,none⟩),S l] W fun e w'=>e=.returned (.tuple #[.int .i64 l.length,.nilIface])∧WJ w w' h r s v (acc ++ l):=by
 have:=J.sz
 refine (write_any (h + 1) (h + 1) acc l W J.bd (by omega) (by omega)).mono ?_
 rintro e w' ⟨rfl,h1,h2⟩
 exact ⟨rfl,J.be.trans (h2.mono (by omega)),(h2.block h (by omega)).trans J.bx,h1⟩
theorem WJ.cells {w W:World} {h:Nat} {r s:Bool} {v:Value} {acc:List UInt8} (J:WJ w W h r s v acc):W.cell? ⟨h,0,none⟩=some (.bool r)∧W.cell? ⟨h,1,none⟩=some (.bool s)∧W.cell? ⟨h,2,none⟩=some v:=by
 refine ⟨?_,?_,?_⟩ <;> rw [cell_of J.bx] <;> rfl
theorem WJ.done {w W:World} {h:Nat} {r s:Bool} {v:Value} {acc:List UInt8} (J:WJ w W h r s v acc) :
  Calls Tryz.prog 314 #[.pointer (some ⟨h + 1,0,none⟩)] W fun e w'=>e=.returned (S acc)∧Below h w w':=by
 have:=J.sz
 refine (Tryz.Builder_String_any (h + 1) (h + 1) acc W J.bd (by omega)).mono ?_
 rintro e w' ⟨rfl,h2⟩
 exact ⟨rfl,J.be.trans (h2.mono (by omega))⟩
theorem join_take (q:List (List UInt8)) (i:Nat) (x:List UInt8) (h:q[i]?=some x):joinS (q.take (i + 1))=joinS (q.take i) ++ ((if 0 < i then [47] else []) ++ x):=by
 induction q generalizing i with
 | nil=>simp at h
 | cons p r ih =>
  cases i with
  | zero=>simp at h;subst h;simp [joinS]
  | succ j =>
   have h1:r[j]?=some x:=by simpa using h
   have h2:=ih j h1
   rw [List.take_succ_cons,List.take_succ_cons]
   cases r with
   | nil=>simp at h1
   | cons y t =>
    cases j with
    | zero =>
     simp at h1;subst h1
     simp [joinS]
    | succ k =>
     rw [List.take_succ_cons] at h2 ⊢
     rw [List.take_succ_cons] at h2 ⊢
     rw [joinS_cons,joinS_cons,h2]
     simp
theorem wt_take (q:List (List UInt8)) (i:Nat):wt (q.take i)≤wt q:=by
 have h:=wt_app (q.take i) (q.drop i)
 rw [List.take_append_drop] at h
 omega
theorem wr_root (s:Bool) (q:List (List UInt8)) (n:Nat) (hn:q.length=n) (hn2:n≤100000000) (a:Option Addr) (cap:Nat) (w:World) (hrow:RowO w a q) (hsz:wt q≤100000000) :
  Calls Tryz.prog 291 #[.agg #[.bool true,.bool s,.slice a n cap]] w fun e w'=>e=.returned (S (pw true s q))∧Below w.heap.size w w':=by
 obtain ⟨V,hV,hsz0,g0,g1,hB⟩:=two0 w (.cells #[.bool true,.bool s,.slice a n cap] 234) (.cells #[.pointer none,.slice none 0 0] 335)
 replace hV:=hide hV
 generalize hh:w.heap.size=h at *
 have J0:WJ w V h true s (.slice a n cap) []:=⟨hB,g0,.inl ⟨Nat.le_refl _,.slice none 0 0,g1,World.ownsRow_nil _ _ _ _,by simp [Value.ownBlock]⟩⟩
 replace J0:=hide J0
 have HROW:=hide hrow
 have HH:=hide hh
 have HN:=hide hn
 clear hB g0 g1 hsz0 hrow hn
 go_enter Tryz.func291,Tryz.ntmps291
 go_wp2_with fail
 rw [unhide hV]
 refine ((unhide J0).write [47] (by simp)).mono ?_
 rintro e w1 ⟨rfl,J1⟩
 replace J1:=hide J1
 clear J0
 obtain ⟨e0,e1,e2⟩:=(unhide J1).cells
 go_wp2_with fail
 clear e0 e1 e2
 go_loopw [12] (fun i wr=>∃ k:Nat,k≤n∧i=.int .i64 k∧WJ w wr h true s (.slice a n cap) (([47]:List UInt8) ++ joinS (q.take k))) (fun i _=>n - (intOf i).toNat)
 case atStart=>exact ⟨0,by omega,rfl,by simpa [joinS] using unhide J1⟩
 case round =>
  obtain ⟨k,hk,rfl,J⟩:=hrel
  by_cases hlt:k < n
  ·have j0:(0:Int)≤(k:Int):=by omega
   have j1:(k:Int) < (n:Int):=by omega
   obtain ⟨x,hx⟩:∃ x,q[k]?=some x:=⟨_,List.getElem?_eq_getElem (by rw [unhide HN];exact hlt)⟩
   obtain ⟨b,off,rfl,hb,c1⟩:=unhide HROW k x hx
   have c2:wr.cell? ⟨b,off + k,none⟩=some (.string (bs x)):=(World.cell?_of_block (J.be.block b (by rw [← unhide HH];exact hb))).trans c1
   have hjt:=hide (join_take q k x hx)
   have hb1:(joinS (q.take k)).length≤100000000:=Nat.le_trans (join_le _) (Nat.le_trans (wt_take q k) hsz)
   have hb2:(joinS (q.take (k + 1))).length≤100000000:=Nat.le_trans (join_le _) (Nat.le_trans (wt_take q _) hsz)
   have hb3:(joinS (q.take k)).length + ((if 0 < k then ([47]:List UInt8) else []).length + x.length)≤100000000:=by
    have:=hb2;rw [unhide hjt] at this;simpa using this
   clear hx c1 hb hb2
   by_cases h0:0 < k
   ·have k0:(0:Int) < (k:Int):=by omega
    rw [if_pos h0] at hb3
    replace hb1:=hide hb1
    replace hb3:=hide hb3
    replace J:=hide J
    clear h0
    go_wp2_with fail
    refine ((unhide J).write [47] (by have:=unhide hb1;simp;omega)).mono ?_
    rintro e w1 ⟨rfl,J3⟩
    replace J3:=hide J3
    go_wp2_with fail
    refine ((unhide J3).write x (by have:=unhide hb3;simp at this ⊢;omega)).mono ?_
    rintro e w2 ⟨rfl,J4⟩
    replace J4:=hide J4
    go_wp2_with fail
    refine ⟨⟨k + 1,by omega,rfl,?_⟩,by simp [intOf];omega⟩
    rw [unhide hjt,if_pos (by omega)]
    simpa using unhide J4
   ·obtain rfl:k=0:=by omega
    replace hb1:=hide hb1
    replace hb3:=hide hb3
    replace J:=hide J
    have c3:wr.cell? ⟨b,off,none⟩=some (.string (bs x)):=c2
    have j2:¬ ((0:Int) < ((0:Nat):Int)):=by omega
    clear h0 c2
    go_wp2_with fail
    refine ((unhide J).write x (by have:=unhide hb3;simp at this ⊢;omega)).mono ?_
    rintro e w2 ⟨rfl,J4⟩
    replace J4:=hide J4
    go_wp2_with fail
    refine ⟨⟨1,by omega,rfl,?_⟩,by simp [intOf];omega⟩
    rw [unhide hjt]
    simpa using unhide J4
  ·obtain rfl:k=n:=by omega
   have j1:¬ (k:Int) < (k:Int):=by omega
   have hq:q.take k=q:=List.take_of_length_le (by rw [unhide HN];exact Nat.le_refl _)
   rw [hq] at J
   clear hq
   have hb1:(joinS q).length≤100000000:=Nat.le_trans (join_le _) hsz
   obtain ⟨e0,e1,e2⟩:=J.cells
   replace J:=hide J
   by_cases h0:0 < k
   ·have k0:(0:Int) < (k:Int):=by omega
    have hne:q.isEmpty=false:=by
     cases q with
     | nil=>have:=unhide HN;simp at this;omega
     | cons _ _=>rfl
    cases s with
    | true =>
     have hw:Hid (pw true true q=([47]:List UInt8) ++ joinS q ++ [47]):=hide (by simp [pw,hne])
     replace hb1:=hide hb1
     clear h0 hne
     go_wp2_with fail
     refine ((unhide J).write [47] (by have:=unhide hb1;simp;omega)).mono ?_
     rintro e w1 ⟨rfl,J3⟩
     replace J3:=hide J3
     go_wp2_with fail
     refine ((unhide J3).done).mono ?_
     rintro e w1 ⟨rfl,B3⟩
     replace B3:=hide B3
     go_wp2_with fail
     go_ret
     exact ⟨by rw [unhide hw];rfl,unhide B3⟩
    | false =>
     have hw:Hid (pw true false q=([47]:List UInt8) ++ joinS q):=hide (by simp [pw])
     clear h0 hne
     go_wp2_with fail
     refine ((unhide J).done).mono ?_
     rintro e w1 ⟨rfl,B3⟩
     replace B3:=hide B3
     go_wp2_with fail
     go_ret
     exact ⟨by rw [unhide hw];rfl,unhide B3⟩
   ·obtain rfl:k=0:=by omega
    have hq0:q=[]:=List.length_eq_zero_iff.1 (unhide HN)
    have k0:¬ ((0:Int) < ((0:Nat):Int)):=by omega
    have hw:Hid (pw true s q=([47]:List UInt8) ++ joinS q):=hide (by simp [pw,hq0])
    clear h0 hq0
    cases s with
    | true =>
     go_wp2_with fail
     refine ((unhide J).done).mono ?_
     rintro e w1 ⟨rfl,B3⟩
     replace B3:=hide B3
     go_wp2_with fail
     go_ret
     exact ⟨by rw [unhide hw];rfl,unhide B3⟩
    | false =>
     go_wp2_with fail
     refine ((unhide J).done).mono ?_
     rintro e w1 ⟨rfl,B3⟩
     replace B3:=hide B3
     go_wp2_with fail
     go_ret
     exact ⟨by rw [unhide hw];rfl,unhide B3⟩
theorem wr_bare (s:Bool) (q:List (List UInt8)) (n:Nat) (hn:q.length=n) (hn2:n≤100000000) (a:Option Addr) (cap:Nat) (w:World) (hrow:RowO w a q) (hsz:wt q≤100000000) :
  Calls Tryz.prog 291 #[.agg #[.bool false,.bool s,.slice a n cap]] w fun e w'=>e=.returned (S (pw false s q))∧Below w.heap.size w w':=by
 obtain ⟨V,hV,hsz0,g0,g1,hB⟩:=two0 w (.cells #[.bool false,.bool s,.slice a n cap] 234) (.cells #[.pointer none,.slice none 0 0] 335)
 replace hV:=hide hV
 generalize hh:w.heap.size=h at *
 have J0:WJ w V h false s (.slice a n cap) []:=⟨hB,g0,.inl ⟨Nat.le_refl _,.slice none 0 0,g1,World.ownsRow_nil _ _ _ _,by simp [Value.ownBlock]⟩⟩
 replace J0:=hide J0
 have HROW:=hide hrow
 have HH:=hide hh
 have HN:=hide hn
 clear hB g0 g1 hsz0 hrow hn
 go_enter Tryz.func291,Tryz.ntmps291
 have J1:=J0
 go_wp2_with fail
 rw [unhide hV]
 go_loopw [12] (fun i wr=>∃ k:Nat,k≤n∧i=.int .i64 k∧WJ w wr h false s (.slice a n cap) (([]:List UInt8) ++ joinS (q.take k))) (fun i _=>n - (intOf i).toNat)
 case atStart=>exact ⟨0,by omega,rfl,by simpa [joinS] using unhide J1⟩
 case round =>
  obtain ⟨k,hk,rfl,J⟩:=hrel
  by_cases hlt:k < n
  ·have j0:(0:Int)≤(k:Int):=by omega
   have j1:(k:Int) < (n:Int):=by omega
   obtain ⟨x,hx⟩:∃ x,q[k]?=some x:=⟨_,List.getElem?_eq_getElem (by rw [unhide HN];exact hlt)⟩
   obtain ⟨b,off,rfl,hb,c1⟩:=unhide HROW k x hx
   have c2:wr.cell? ⟨b,off + k,none⟩=some (.string (bs x)):=(World.cell?_of_block (J.be.block b (by rw [← unhide HH];exact hb))).trans c1
   have hjt:=hide (join_take q k x hx)
   have hb1:(joinS (q.take k)).length≤100000000:=Nat.le_trans (join_le _) (Nat.le_trans (wt_take q k) hsz)
   have hb2:(joinS (q.take (k + 1))).length≤100000000:=Nat.le_trans (join_le _) (Nat.le_trans (wt_take q _) hsz)
   have hb3:(joinS (q.take k)).length + ((if 0 < k then ([47]:List UInt8) else []).length + x.length)≤100000000:=by
    have:=hb2;rw [unhide hjt] at this;simpa using this
   clear hx c1 hb hb2
   by_cases h0:0 < k
   ·have k0:(0:Int) < (k:Int):=by omega
    rw [if_pos h0] at hb3
    replace hb1:=hide hb1
    replace hb3:=hide hb3
    replace J:=hide J
    clear h0
    go_wp2_with fail
    refine ((unhide J).write [47] (by have:=unhide hb1;simp;omega)).mono ?_
    rintro e w1 ⟨rfl,J3⟩
    replace J3:=hide J3
    go_wp2_with fail
    refine ((unhide J3).write x (by have:=unhide hb3;simp at this ⊢;omega)).mono ?_
    rintro e w2 ⟨rfl,J4⟩
    replace J4:=hide J4
    go_wp2_with fail
    refine ⟨⟨k + 1,by omega,rfl,?_⟩,by simp [intOf];omega⟩
    rw [unhide hjt,if_pos (by omega)]
    simpa using unhide J4
   ·obtain rfl:k=0:=by omega
    replace hb1:=hide hb1
    replace hb3:=hide hb3
    replace J:=hide J
    have c3:wr.cell? ⟨b,off,none⟩=some (.string (bs x)):=c2
    have j2:¬ ((0:Int) < ((0:Nat):Int)):=by omega
    clear h0 c2
    go_wp2_with fail
    refine ((unhide J).write x (by have:=unhide hb3;simp at this ⊢;omega)).mono ?_
    rintro e w2 ⟨rfl,J4⟩
    replace J4:=hide J4
    go_wp2_with fail
    refine ⟨⟨1,by omega,rfl,?_⟩,by simp [intOf];omega⟩
    rw [unhide hjt]
    simpa using unhide J4
  ·obtain rfl:k=n:=by omega
   have j1:¬ (k:Int) < (k:Int):=by omega
   have hq:q.take k=q:=List.take_of_length_le (by rw [unhide HN];exact Nat.le_refl _)
   rw [hq] at J
   clear hq
   have hb1:(joinS q).length≤100000000:=Nat.le_trans (join_le _) hsz
   obtain ⟨e0,e1,e2⟩:=J.cells
   replace J:=hide J
   by_cases h0:0 < k
   ·have k0:(0:Int) < (k:Int):=by omega
    have hne:q.isEmpty=false:=by
     cases q with
     | nil=>have:=unhide HN;simp at this;omega
     | cons _ _=>rfl
    cases s with
    | true =>
     have hw:Hid (pw false true q=([]:List UInt8) ++ joinS q ++ [47]):=hide (by simp [pw,hne])
     replace hb1:=hide hb1
     clear h0 hne
     go_wp2_with fail
     refine ((unhide J).write [47] (by have:=unhide hb1;simp;omega)).mono ?_
     rintro e w1 ⟨rfl,J3⟩
     replace J3:=hide J3
     go_wp2_with fail
     refine ((unhide J3).done).mono ?_
     rintro e w1 ⟨rfl,B3⟩
     replace B3:=hide B3
     go_wp2_with fail
     go_ret
     exact ⟨by rw [unhide hw];rfl,unhide B3⟩
    | false =>
     have hw:Hid (pw false false q=([]:List UInt8) ++ joinS q):=hide (by simp [pw])
     clear h0 hne
     go_wp2_with fail
     refine ((unhide J).done).mono ?_
     rintro e w1 ⟨rfl,B3⟩
     replace B3:=hide B3
     go_wp2_with fail
     go_ret
     exact ⟨by rw [unhide hw];rfl,unhide B3⟩
   ·obtain rfl:k=0:=by omega
    have hq0:q=[]:=List.length_eq_zero_iff.1 (unhide HN)
    have k0:¬ ((0:Int) < ((0:Nat):Int)):=by omega
    have hw:Hid (pw false s q=([]:List UInt8) ++ joinS q):=hide (by simp [pw,hq0])
    clear h0 hq0
    cases s with
    | true =>
     go_wp2_with fail
     refine ((unhide J).done).mono ?_
     rintro e w1 ⟨rfl,B3⟩
     replace B3:=hide B3
     go_wp2_with fail
     go_ret
     exact ⟨by rw [unhide hw];rfl,unhide B3⟩
    | false =>
     go_wp2_with fail
     refine ((unhide J).done).mono ?_
     rintro e w1 ⟨rfl,B3⟩
     replace B3:=hide B3
     go_wp2_with fail
     go_ret
     exact ⟨by rw [unhide hw];rfl,unhide B3⟩
theorem wr_any (r s:Bool) (q:List (List UInt8)) (n:Nat) (hn:q.length=n) (a:Option Addr) (cap:Nat) (w:World) (hrow:RowO w a q) (hsz:wt q≤100000000) :
  Calls Tryz.prog 291 #[.agg #[.bool r,.bool s,.slice a n cap]] w fun e w'=>e=.returned (S (pw r s q))∧Below w.heap.size w w':=by
 have h2:∀ q:List (List UInt8),q.length≤wt q:=by
  intro q
  induction q with
  | nil=>simp
  | cons p r ih=>simp [wt];omega
 have:=h2 q
 cases r
 ·exact wr_bare s q n hn (by omega) a cap w hrow hsz
 ·exact wr_root s q n hn (by omega) a cap w hrow hsz
open Go.RowKit Go.Shelf
attribute [local go_sem] Oper.semAt_some
def strLen:Value→Nat
 | .string s=>s.size
 | _ =>0
theorem strLen_S (l:List UInt8):strLen (S l)=l.length:=by simp [strLen,ByteArray.size]
theorem iter_go (y x:Nat) (l0:List UInt8) (W:World) (J:List UInt8→World→Prop) (E:World→Prop) (hl0:l0.length≤9223372036854775807) (hJ0:J l0 W) (hx:W.cell? ⟨x,0,none⟩=some (S l0))
  (hD:∀ r W' n,J r W'→J r (W'.drewN n)) (hS:∀ r W',J r W'→before r=[]→J (behind r) W')
  (hY:∀ r W',J r W'→r.length≤l0.length→before r≠[]→YieldAt Fence.wide (3 - 1) Tryz.prog y #[S (before r)] W' fun e W2=>(e=.returned (.bool true)∧J (behind r) W2) ∨ (e=.returned (.bool false)∧E W2)) :
  CallsIn Fence.wide 3 Tryz.prog 289 #[.func (.yield y) #[] #[],.pointer (some ⟨x,0,none⟩)] W fun e W'=>e=.returned (.tuple #[])∧(J [] W' ∨ E W'):=by
 have hro:Fence.wide.round=none:=rfl
 have HY:=hide hY
 have HD:=hide hD
 have HS:=hide hS
 clear hY hD hS
 refine callsIn_of_wp Tryz.func289 rfl trivial ?_ hro
 simp only [Tryz.ntmps289,List.size_toArray,List.length_cons,List.length_nil,Nat.reduceAdd,Nat.reduceSub,Array.replicate_succ,Array.replicate_zero,List.push_toArray,List.append_toArray,List.nil_append,List.cons_append]
 gi_wp2_with fail
 clear hx
 gi_loopw [3] (fun i wr=>∃ r:List UInt8,r.length≤l0.length∧i=S r∧J r wr) (fun i _=>strLen i)
 case atStart=>exact ⟨l0,Nat.le_refl _,rfl,hJ0⟩
 case round =>
  obtain ⟨r,hr,rfl,hJ⟩:=hrel
  by_cases h0:r=[]
  ·subst h0
   gi_wp2_with fail
   go_end0
   exact ⟨rfl,.inl hJ⟩
  ·have h1:r.isEmpty=false:=by simpa using h0
   have hlt:=hide (behind_lt h0)
   by_cases hb:before r=[]
   ·have HJ:=hide (unhide HS r wr hJ hb)
    clear hJ
    gi_wp2_with fail
    refine ⟨trivial,(callsIn_wide.2 (cut_any r _ (by omega))).mono ?_⟩
    rintro e w' ⟨⟨f,rfl⟩,n,rfl⟩
    rw [hb]
    gi_wp2_with fail
    rename_i K2 hK2 x2 h2 w2 q2
    refine ⟨(fun _ _=>trivial),hK2 _ _ ?_⟩
    clear q2 x2 h2 w2
    gi_wp2_with fail
    go_roundw
    case rel=>exact ⟨behind r,Nat.le_trans (behind_le r) hr,rfl,unhide HD _ _ _ (unhide HJ)⟩
    case measure=>have:=unhide hlt;simp [strLen_S];omega
   ·have hbe:(before r).isEmpty=false:=by simpa using hb
    have hY:=hide fun n=>unhide HY r (wr.drewN n) (unhide HD _ _ _ hJ) hr hb
    clear hJ
    gi_wp2_with fail
    refine ⟨trivial,(callsIn_wide.2 (cut_any r _ (by omega))).mono ?_⟩
    rintro e w' ⟨⟨f,rfl⟩,n,rfl⟩
    obtain ⟨fn,tmps,assign,body,hyy,hR⟩:=unhide hY n
    gi_wp2_with fail
    refine hR.mono ?_
    rintro e W2 (⟨rfl,hJ2⟩ | ⟨rfl,hE⟩)
    ·gi_wp2_with fail
     go_roundw
     case rel=>exact ⟨behind r,Nat.le_trans (behind_le r) hr,rfl,hJ2⟩
     case measure=>have:=unhide hlt;simp [strLen_S];omega
    ·gi_wp2_with fail
     refine bodyPost_ret (results_none rfl _ _ _) rfl ?_
     exact ⟨rfl,.inr hE⟩
open Go.RowKit Go.Shelf
attribute [local go_sem] Oper.semAt_some
theorem parts_any (l:List UInt8) (w:World):Calls Tryz.prog 231 #[S l] w fun e w'=>e=.returned (.func (.func 289) #[] #[.pointer (some ⟨w.heap.size,0,none⟩)])∧w'=w.alloc (.cells #[S l] 9):=by
 have hmf:∀ (fn:Go.Fn) (first cap:Array Value) (w:World),(Instr.makeFunc fn first cap).run Tryz.prog w=.ok (.func fn first cap) w:=fun _ _ _ _=>rfl
 go_enter Tryz.func231,Tryz.ntmps231
 go_wp2
 go_ret
 exact ⟨rfl,rfl⟩
theorem ref_err {l:List UInt8} (h:ref1 l≠0):err l=ref1 l:=by
 unfold err;unfold ref1 at h ⊢
 split
 ·rfl
 ·split
  ·rfl
  ·split
   ·rfl
   ·simp_all
theorem ref_ok {l:List UInt8} (h:ref1 l=0):l≠[]∧l.length≤4096∧(0:UInt8) ∉ l:=by
 unfold ref1 at h
 split at h
 ·omega
 ·split at h
  ·omega
  ·split at h
   ·omega
   ·exact ⟨‹_›,by omega,‹_›⟩
theorem read_no (l:List UInt8) (w:World) (h:ref1 l≠0) :
  CallsIn Fence.wide 4 Tryz.prog 157 #[S l] w fun e w'=>e=.returned (.tuple #[.agg #[.bool false,.bool false,.slice none 0 0],.int .i64 (ref1 l)])∧Below w.heap.size w w':=by
 have hro:Fence.wide.round=none:=rfl
 have H:=hide (refusal_any l)
 have hne:¬ ref1 l=0:=h
 generalize ref1 l=x at *
 refine callsIn_of_wp_marks Tryz.func157 rfl trivial ?_ hro
 simp only [Tryz.ntmps157,List.size_toArray,List.length_cons,List.length_nil,Nat.reduceAdd,Nat.reduceSub,Array.replicate_succ,Array.replicate_zero,List.push_toArray,List.append_toArray,List.nil_append,List.cons_append]
 gi_wp2_with fail
 refine ⟨trivial,(callsIn_wide.2 (unhide H _)).mono ?_⟩
 rintro e w' ⟨rfl,rfl⟩
 gi_wp2_with fail
 obtain ⟨V,hV,hsz,g0,g1,hB⟩:=two0 w (.cells #[.bool false,.bool false,.slice none 0 0] 234) (.cells #[.int .i64 x] 24)
 rw [hV]
 have z0:V.cell? ⟨w.heap.size,0,none⟩=some (.bool false):=by rw [cell_of g0];rfl
 have z1:V.cell? ⟨w.heap.size,1,none⟩=some (.bool false):=by rw [cell_of g0];rfl
 have z2:V.cell? ⟨w.heap.size,2,none⟩=some (.slice none 0 0):=by rw [cell_of g0];rfl
 have z3:V.cell? ⟨w.heap.size + 1,0,none⟩=some (.int .i64 x):=by rw [cell_of g1];rfl
 exact ⟨.tuple #[.agg #[.bool false,.bool false,.slice none 0 0],.int .i64 x],by simp [results,Tryz.results157,go_sem,z0,z1,z2,z3],rfl,hB⟩
structure RJ (w W:World) (r:Loop) (h:Nat) (l:List UInt8) (p s:Bool) (rest:List UInt8):Prop where
 lp:W.heap[h + 5]?=some (.loop r)
 dd:W.heap[h + 4]?=some (.deferred (some []))
 be:Below h w W
 k0:W.heap[h]?=some (.cells #[.bool false,.bool false,.slice none 0 0] 234)
 k1:W.heap[h + 1]?=some (.cells #[.int .i64 0] 24)
 ow:∃ v dn,W.heap[h + 2]?=some (.cells #[.bool p,.bool s,v] 234)∧parts l=dn ++ parts rest∧(∀ q ∈ dn,q.length≤255)∧W.ownsRow h 9 1 v dn.length (strs dn)
structure RE (w W:World) (h:Nat) (l:List UInt8):Prop where
 lp:∃ rd:Loop,rd.state=.done∧rd.pending=some .ret∧W.heap[h + 5]?=some (.loop rd)
 dd:W.heap[h + 4]?=some (.deferred (some []))
 be:Below h w W
 k0:W.heap[h]?=some (.cells #[.bool false,.bool false,.slice none 0 0] 234)
 k1:W.heap[h + 1]?=some (.cells #[.int .i64 45] 24)
 er:∃ q ∈ parts l,255 < q.length
theorem below_put {w W:World} {h k:Nat} {o:Obj} (hb:Below h w W) (hk:h≤k):Below h w (W.putObj k o) :=
 ⟨hb.os,hb.tape,hb.output,by rw [World.putObj_size];exact hb.size,fun j hj=>(World.putObj_heap_other (by omega)).trans (hb.block j hj)⟩
theorem RJ.put {w W:World} {r:Loop} {h:Nat} {l:List UInt8} {p s:Bool} {rest:List UInt8} (J:RJ w W r h l p s rest) (r':Loop):RJ w (W.putObj (h + 5) (.loop r')) r' h l p s rest:=by
 obtain ⟨v,dn,o1,o2,o3,o4⟩:=J.ow
 exact ⟨World.putObj_heap_same (lt_of_heap J.lp),put_other J.lp J.dd (by simp),below_put J.be (by omega),put_other J.lp J.k0 (by simp),put_other J.lp J.k1 (by simp),v,dn,put_other J.lp o1 (by simp),o2,o3,own_put o4 J.lp⟩
theorem RJ.drewN {w W:World} {r:Loop} {h:Nat} {l:List UInt8} {p s:Bool} {rest:List UInt8} (J:RJ w W r h l p s rest) (n:Nat):RJ w (W.drewN n) r h l p s rest:=by
 obtain ⟨v,dn,o1,o2,o3,o4⟩:=J.ow
 exact ⟨J.lp,J.dd,below_dn J.be n,J.k0,J.k1,v,dn,o1,o2,o3,own_keep o4 fun _ _ _=>rfl⟩
theorem RJ.skip {w W:World} {r:Loop} {h:Nat} {l:List UInt8} {p s:Bool} {rest:List UInt8} (J:RJ w W r h l p s rest) (hb:before rest=[]):RJ w W r h l p s (behind rest):=by
 obtain ⟨v,dn,o1,o2,o3,o4⟩:=J.ow
 exact ⟨J.lp,J.dd,J.be,J.k0,J.k1,v,dn,o1,by rw [o2,parts_cut rest,hb];simp [piece],o3,o4⟩
theorem parts_le (l:List UInt8):(parts l).length≤l.length + 1:=by
 have h:=wt_parts _ l (Nat.le_refl _)
 have h2:∀ q:List (List UInt8),q.length≤wt q:=by
  intro q
  induction q with
  | nil=>simp
  | cons p r ih=>simp [wt];omega
 have h3:ende l≤1:=by unfold ende;split <;> omega
 have:=h2 (parts l)
 omega
theorem cell_one_new (W:World) (v:Value) (t:TypeId) (j:Nat) (u:Value) (h:[v][j]?=some u):(W.alloc (.cells #[v] t)).cell? ((⟨W.heap.size,0,none⟩:Addr).add j)=some u:=by
 match j,h with
 | 0,h=>simp at h;subst h;rw [show (⟨W.heap.size,0,none⟩:Addr).add 0=⟨W.heap.size,0,none⟩ from rfl,cell_of (putAll _ _ rfl)];rfl
theorem RJ.more {w W:World} {r:Loop} {h:Nat} {l:List UInt8} {p s:Bool} {rest q:List UInt8} (J:RJ w W r h l p s rest) (hq:parts rest=q :: parts (behind rest)) (hql:q.length≤255) (hl:l.length≤4096) :
  ∃ v,W.cell? ⟨h + 2,2,none⟩=some v∧∀ X:World,Below W.heap.size W X→X.cell? ⟨h + 2,2,none⟩=some v∧(X.alloc (.cells #[S q] 9)).cell? ⟨h + 2,2,none⟩=some v ∧
   ∃ a m c W6,(Builtin.append_ #[55,55] 55 #[v,.slice (some ⟨X.heap.size,0,none⟩) 1 1]).run Tryz.prog (X.alloc (.cells #[S q] 9))=.ok (.slice a m c) W6∧W6.cell? ⟨h + 2,2,none⟩=some v∧W6.frozen? ⟨h + 2,2,none⟩=false ∧
    (W6.setCell ⟨h + 2,2,none⟩ (.slice a m c)).heap[h + 5]?=some (.loop r)∧RJ w (W6.setCell ⟨h + 2,2,none⟩ (.slice a m c)) r h l p s (behind rest):=by
 obtain ⟨v,dn,o1,o2,o3,o4⟩:=J.ow
 obtain ⟨i0,hi,hz0,hz1,hz2⟩:=info_parts info9
 have hdn:dn.length≤4097:=by
  have h1:=congrArg List.length o2
  have h2:=parts_le l
  simp at h1;omega
 have hlw:=lt_of_heap J.lp
 refine ⟨v,by rw [cell_of o1];rfl,fun X hB=>?_⟩
 have kx:∀ {k:Nat} {o:Obj},W.heap[k]?=some o→X.heap[k]?=some o:=fun h1=>(hB.block _ (lt_of_heap h1)).trans h1
 have hxs:=hB.size
 have ownX:X.ownsRow h 9 1 v dn.length (strs dn):=own_keep o4 fun k cur hc=>hB.block _ (lt_of_heap hc)
 have own5:=own_keep (W':=X.alloc (.cells #[S q] 9)) ownX (fun k cur hc=>Below.heap_alloc X _ _ (lt_of_heap hc))
 obtain ⟨v',W6,hrun,own6,hgr,-,-⟩:=run_append_own_at (P:=Tryz.prog) (X.alloc (.cells #[S q] 9)) h 55 55 9 i0 (.string ByteArray.empty) 1 16 Tryz.underlying55 hi hz0 hz1 hz2 rfl (by decide) v _ _ own5 ⟨X.heap.size,0,none⟩ 1 1 [S q] rfl (cell_one_new X _ _) (by intro u hu;simp at hu;subst hu;rfl) (by unfold maxLen;omega) (by omega) (by simp;omega)
 obtain ⟨a,c,rfl⟩:=own_form own6
 have k6:∀ {k:Nat} {o:Obj},W.heap[k]?=some o→(∀ cur,o≠.cells cur 9 (0,0))→W6.heap[k]?=some o:=fun h1 h2=>grown_keep ownX hgr (kx h1) h2
 have b6:=k6 o1 (by simp)
 have k7:∀ {k:Nat} {o:Obj},W.heap[k]?=some o→(∀ cur,o≠.cells cur 9 (0,0))→k≠h + 2→(W6.setCell ⟨h + 2,2,none⟩ (.slice a (dn.length + 1) c)).heap[k]?=some o:=fun h1 h2 h3=>(Below.heap_setCell _ _ _ _ h3).trans (k6 h1 h2)
 have be6:Below h w W6:=below_grown ((J.be.trans (hB.mono (by omega))).alloc (by omega) _) own5 hgr (by simp;omega)
 refine ⟨by rw [cell_of (kx o1)];rfl,by rw [cell_of ((Below.heap_alloc X _ _ (lt_of_heap (kx o1))).trans (kx o1))];rfl,a,_,c,W6,hrun,by rw [cell_of b6];rfl,frozen_of b6 2,k7 J.lp (by simp) (by omega),?_⟩
 refine ⟨k7 J.lp (by simp) (by omega),k7 J.dd (by simp) (by omega),be6.setCell (p:=⟨h + 2,2,none⟩) (by simp) _,k7 J.k0 (by simp) (by omega),k7 J.k1 (by simp) (by omega),.slice a (dn.length + 1) c,dn ++ [q],?_,by rw [o2,hq];simp,?_,?_⟩
 ·rw [heap_set b6];simp
 ·intro x hx
  rcases List.mem_append.1 hx with hx | hx
  ·exact o3 x hx
  ·simp at hx;subst hx;exact hql
 ·have e1:(dn ++ [q]).length=dn.length + 1:=by simp
  have e2:strs (dn ++ [q])=strs dn ++ [S q]:=by simp [strs]
  rw [e1,e2]
  refine own_keep own6 fun k cur hc=>Below.heap_setCell _ _ _ _ ?_
  rintro rfl
  rw [b6] at hc
  simp at hc
theorem RJ.drew {w W:World} {r:Loop} {h:Nat} {l:List UInt8} {p s:Bool} {rest:List UInt8} (J:RJ w W r h l p s rest):RJ w W.drew r h l p s rest:=by
 obtain ⟨v,dn,o1,o2,o3,o4⟩:=J.ow
 exact ⟨J.lp,J.dd,below_drew J.be,J.k0,J.k1,v,dn,o1,o2,o3,own_keep o4 fun _ _ _=>rfl⟩
end Go.Proofs.YtlngeaacjbdmhaaGreat.Nm
