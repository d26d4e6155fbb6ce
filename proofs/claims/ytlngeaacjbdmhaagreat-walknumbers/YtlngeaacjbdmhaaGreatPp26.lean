/-
 The document's Write.
-/
import Derived.Test.YtlngeaacjbdmhaaGreatPp25
import Derived.Test.YtlngeaacjbdmhaaGreatPp19
import Derived.Test.YtlngeaacjbdmhaaGreatPp23
set_option maxRecDepth 100000
set_option maxHeartbeats 4000000
namespace Go.Proofs.YtlngeaacjbdmhaaGreat.Nm
open Go.RowKit
attribute [local go_sem ↓] Go.wp_at_zero Go.wp_at_succ
theorem rwr_root (s:Bool) (q:List (List UInt8)) (n:Nat) (hn:q.length=n) (hn2:n≤100000) (a:Option Addr) (cap:Nat) (w:World) (hrow:RowO w a q) (hsz:wt q≤100000) :
  Calls Tryz.prog 240 #[.agg #[.bool true,.bool s,.slice a n cap]] w fun e w'=>e=.returned (S (pw true s q))∧Below w.heap.size w w':=by
 obtain ⟨V,hV,BV,bV⟩:=box (W:=w) (.cells #[.bool true,.bool s,.slice a n cap] 171)
 have c0:V.cell? ⟨w.heap.size,0,none⟩=some (.bool true):=by rw [cell_of bV];rfl
 have c1:V.cell? ⟨w.heap.size,1,none⟩=some (.bool s):=by rw [cell_of bV];rfl
 have c2:V.cell? ⟨w.heap.size,2,none⟩=some (.slice a n cap):=by rw [cell_of bV];rfl
 have HR:=hide (hrow.below BV)
 have HB:=hide BV
 have HN:=hide hn
 clear bV BV hrow hn
 go_enter Tryz.func240,Tryz.ntmps240
 go_wp2_with fail
 generalize hH:w.heap.size=h at *
 have HH:=hide hH
 clear hV hH
 go_loopw [3,4] (fun t i wr=>∃ k:Nat,k≤n∧i=.int .i64 k∧t=S (([47]:List UInt8) ++ joinS (q.take k))∧wr=V) (fun _ i _=>n - (intOf i).toNat)
 case atStart=>exact ⟨0,by omega,rfl,by simp [joinS],rfl⟩
 case round =>
  obtain ⟨k,hk,rfl,rfl,rfl⟩:=hrel
  have hb1:(joinS (q.take k)).length≤100000:=Nat.le_trans (join_le _) (Nat.le_trans (wt_take q k) hsz)
  have s0l:(([47]:List UInt8) ++ joinS (q.take k)).length≤100001:=by rw [List.length_append];simp;omega
  by_cases hlt:k < n
  ·have j0:(0:Int)≤(k:Int):=by omega
   have j1:(k:Int) < (n:Int):=by omega
   obtain ⟨x,hx⟩:∃ x,q[k]?=some x:=⟨_,List.getElem?_eq_getElem (by rw [unhide HN];exact hlt)⟩
   obtain ⟨b,off,rfl,hb,cx⟩:=unhide HR k x hx
   have hjt:=join_take q k x hx
   have hb2:(joinS (q.take (k + 1))).length≤100000:=Nat.le_trans (join_le _) (Nat.le_trans (wt_take q _) hsz)
   rw [hjt,List.length_append,List.length_append] at hb2
   have xl:x.length≤100000:=by omega
   by_cases h0:0 < k
   ·have k0:(0:Int) < (k:Int):=by omega
    rw [if_pos h0] at hjt
    obtain ⟨s1,hs1⟩:∃ s1,([47]:List UInt8) ++ joinS (q.take k) ++ [47]=s1:=⟨_,rfl⟩
    obtain ⟨s2,hs2⟩:∃ s2,s1 ++ x=s2:=⟨_,rfl⟩
    have s1l:s1.length≤100002:=by rw [← hs1,List.length_append];simp at s0l ⊢;omega
    have HS:Hid (s2=([47]:List UInt8) ++ joinS (q.take (k + 1))):=hide (by rw [hjt,← hs2,← hs1];simp)
    generalize ([47]:List UInt8) ++ joinS (q.take k)=s0 at *
    have t1:bs s0 ++ (⟨#[47]⟩:ByteArray)=bs s1:=by rw [← hs1];exact cat_two s0 [47]
    have t2:bs s1 ++ bs x=bs s2:=by rw [← hs2];exact cat_two s1 x
    clear hx hjt hb2 hb1 hs1 hs2 h0
    go_wp2_with fail
    exact ⟨⟨k + 1,by omega,rfl,by rw [← unhide HS],trivial⟩,by simp [intOf];omega⟩
   ·obtain rfl:k=0:=by omega
    rw [if_neg h0,List.nil_append] at hjt
    obtain ⟨s2,hs2⟩:∃ s2,([47]:List UInt8) ++ joinS (q.take 0) ++ x=s2:=⟨_,rfl⟩
    have HS:Hid (s2=([47]:List UInt8) ++ joinS (q.take 1)):=hide (by rw [hjt,← hs2];simp)
    generalize ([47]:List UInt8) ++ joinS (q.take 0)=s0 at *
    have t2:bs s0 ++ bs x=bs s2:=by rw [← hs2];exact cat_two s0 x
    have cx0:wr.cell? ⟨b,off,none⟩=some (.string (bs x)):=cx
    have k0:¬ ((0:Int) < ((0:Nat):Int)):=by omega
    clear hx hjt hb2 hb1 hs2 h0 cx
    go_wp2_with fail
    exact ⟨⟨1,by omega,rfl,by rw [← unhide HS],trivial⟩,by simp [intOf];omega⟩
  ·obtain rfl:k=n:=by omega
   have j1:¬ (k:Int) < (k:Int):=by omega
   have hq:q.take k=q:=List.take_of_length_le (by rw [unhide HN];exact Nat.le_refl _)
   rw [hq] at s0l ⊢
   clear hq hb1
   by_cases h0:0 < k
   ·have k0:(0:Int) < (k:Int):=by omega
    have hne:q.isEmpty=false:=by
     cases q with
     | nil=>have:=unhide HN;simp at this;omega
     | cons _ _=>rfl
    cases s with
    | true =>
     have hw:Hid (pw true true q=([47]:List UInt8) ++ joinS q ++ [47]):=hide (by simp [pw,hne])
     generalize ([47]:List UInt8) ++ joinS q=s0 at *
     obtain ⟨s1,hs1⟩:∃ s1,s0 ++ [47]=s1:=⟨_,rfl⟩
     have t1:bs s0 ++ (⟨#[47]⟩:ByteArray)=bs s1:=by rw [← hs1];exact cat_two s0 [47]
     rw [hs1] at hw
     clear h0 hne hs1
     go_wp2_with fail
     go_ret
     exact ⟨by rw [unhide hw];rfl,by rw [unhide HH];exact unhide HB⟩
    | false =>
     have hw:Hid (pw true false q=([47]:List UInt8) ++ joinS q):=hide (by simp [pw])
     clear h0 hne
     go_wp2_with fail
     go_ret
     exact ⟨by rw [unhide hw];rfl,by rw [unhide HH];exact unhide HB⟩
   ·obtain rfl:k=0:=by omega
    have hq0:q=[]:=List.length_eq_zero_iff.1 (unhide HN)
    have hw:Hid (pw true s q=([47]:List UInt8) ++ joinS q):=hide (by simp [pw,hq0])
    clear h0 hq0
    cases s with
    | true =>
     go_wp2_with fail
     go_ret
     exact ⟨by rw [unhide hw];rfl,by rw [unhide HH];exact unhide HB⟩
    | false =>
     go_wp2_with fail
     go_ret
     exact ⟨by rw [unhide hw];rfl,by rw [unhide HH];exact unhide HB⟩
theorem rwr_bare (s:Bool) (q:List (List UInt8)) (n:Nat) (hn:q.length=n) (hn2:n≤100000) (a:Option Addr) (cap:Nat) (w:World) (hrow:RowO w a q) (hsz:wt q≤100000) :
  Calls Tryz.prog 240 #[.agg #[.bool false,.bool s,.slice a n cap]] w fun e w'=>e=.returned (S (pw false s q))∧Below w.heap.size w w':=by
 obtain ⟨V,hV,BV,bV⟩:=box (W:=w) (.cells #[.bool false,.bool s,.slice a n cap] 171)
 have c0:V.cell? ⟨w.heap.size,0,none⟩=some (.bool false):=by rw [cell_of bV];rfl
 have c1:V.cell? ⟨w.heap.size,1,none⟩=some (.bool s):=by rw [cell_of bV];rfl
 have c2:V.cell? ⟨w.heap.size,2,none⟩=some (.slice a n cap):=by rw [cell_of bV];rfl
 have HR:=hide (hrow.below BV)
 have HB:=hide BV
 have HN:=hide hn
 clear bV BV hrow hn
 go_enter Tryz.func240,Tryz.ntmps240
 go_wp2_with fail
 generalize hH:w.heap.size=h at *
 have HH:=hide hH
 clear hV hH
 go_loopw [3,4] (fun t i wr=>∃ k:Nat,k≤n∧i=.int .i64 k∧t=S (([]:List UInt8) ++ joinS (q.take k))∧wr=V) (fun _ i _=>n - (intOf i).toNat)
 case atStart=>exact ⟨0,by omega,rfl,by simp [joinS],rfl⟩
 case round =>
  obtain ⟨k,hk,rfl,rfl,rfl⟩:=hrel
  have hb1:(joinS (q.take k)).length≤100000:=Nat.le_trans (join_le _) (Nat.le_trans (wt_take q k) hsz)
  have s0l:(([]:List UInt8) ++ joinS (q.take k)).length≤100001:=by rw [List.length_append];simp;omega
  by_cases hlt:k < n
  ·have j0:(0:Int)≤(k:Int):=by omega
   have j1:(k:Int) < (n:Int):=by omega
   obtain ⟨x,hx⟩:∃ x,q[k]?=some x:=⟨_,List.getElem?_eq_getElem (by rw [unhide HN];exact hlt)⟩
   obtain ⟨b,off,rfl,hb,cx⟩:=unhide HR k x hx
   have hjt:=join_take q k x hx
   have hb2:(joinS (q.take (k + 1))).length≤100000:=Nat.le_trans (join_le _) (Nat.le_trans (wt_take q _) hsz)
   rw [hjt,List.length_append,List.length_append] at hb2
   have xl:x.length≤100000:=by omega
   by_cases h0:0 < k
   ·have k0:(0:Int) < (k:Int):=by omega
    rw [if_pos h0] at hjt
    obtain ⟨s1,hs1⟩:∃ s1,([]:List UInt8) ++ joinS (q.take k) ++ [47]=s1:=⟨_,rfl⟩
    obtain ⟨s2,hs2⟩:∃ s2,s1 ++ x=s2:=⟨_,rfl⟩
    have s1l:s1.length≤100002:=by rw [← hs1,List.length_append];simp at s0l ⊢;omega
    have HS:Hid (s2=([]:List UInt8) ++ joinS (q.take (k + 1))):=hide (by rw [hjt,← hs2,← hs1];simp)
    generalize ([]:List UInt8) ++ joinS (q.take k)=s0 at *
    have t1:bs s0 ++ (⟨#[47]⟩:ByteArray)=bs s1:=by rw [← hs1];exact cat_two s0 [47]
    have t2:bs s1 ++ bs x=bs s2:=by rw [← hs2];exact cat_two s1 x
    clear hx hjt hb2 hb1 hs1 hs2 h0
    go_wp2_with fail
    exact ⟨⟨k + 1,by omega,rfl,by rw [← unhide HS],trivial⟩,by simp [intOf];omega⟩
   ·obtain rfl:k=0:=by omega
    rw [if_neg h0,List.nil_append] at hjt
    obtain ⟨s2,hs2⟩:∃ s2,([]:List UInt8) ++ joinS (q.take 0) ++ x=s2:=⟨_,rfl⟩
    have HS:Hid (s2=([]:List UInt8) ++ joinS (q.take 1)):=hide (by rw [hjt,← hs2];simp)
    generalize ([]:List UInt8) ++ joinS (q.take 0)=s0 at *
    have t2:bs s0 ++ bs x=bs s2:=by rw [← hs2];exact cat_two s0 x
    have cx0:wr.cell? ⟨b,off,none⟩=some (.string (bs x)):=cx
    have k0:¬ ((0:Int) < ((0:Nat):Int)):=by omega
    clear hx hjt hb2 hb1 hs2 h0 cx
    go_wp2_with fail
    exact ⟨⟨1,by omega,rfl,by rw [← unhide HS],trivial⟩,by simp [intOf];omega⟩
  ·obtain rfl:k=n:=by omega
   have j1:¬ (k:Int) < (k:Int):=by omega
   have hq:q.take k=q:=List.take_of_length_le (by rw [unhide HN];exact Nat.le_refl _)
   rw [hq] at s0l ⊢
   clear hq hb1
   by_cases h0:0 < k
   ·have k0:(0:Int) < (k:Int):=by omega
    have hne:q.isEmpty=false:=by
     cases q with
     | nil=>have:=unhide HN;simp at this;omega
     | cons _ _=>rfl
    cases s with
    | true =>
     have hw:Hid (pw false true q=([]:List UInt8) ++ joinS q ++ [47]):=hide (by simp [pw,hne])
     generalize ([]:List UInt8) ++ joinS q=s0 at *
     obtain ⟨s1,hs1⟩:∃ s1,s0 ++ [47]=s1:=⟨_,rfl⟩
     have t1:bs s0 ++ (⟨#[47]⟩:ByteArray)=bs s1:=by rw [← hs1];exact cat_two s0 [47]
     rw [hs1] at hw
     clear h0 hne hs1
     go_wp2_with fail
     go_ret
     exact ⟨by rw [unhide hw];rfl,by rw [unhide HH];exact unhide HB⟩
    | false =>
     have hw:Hid (pw false false q=([]:List UInt8) ++ joinS q):=hide (by simp [pw])
     clear h0 hne
     go_wp2_with fail
     go_ret
     exact ⟨by rw [unhide hw];rfl,by rw [unhide HH];exact unhide HB⟩
   ·obtain rfl:k=0:=by omega
    have hq0:q=[]:=List.length_eq_zero_iff.1 (unhide HN)
    have hw:Hid (pw false s q=([]:List UInt8) ++ joinS q):=hide (by simp [pw,hq0])
    clear h0 hq0
    cases s with
    | true =>
     go_wp2_with fail
     go_ret
     exact ⟨by rw [unhide hw];rfl,by rw [unhide HH];exact unhide HB⟩
    | false =>
     go_wp2_with fail
     go_ret
     exact ⟨by rw [unhide hw];rfl,by rw [unhide HH];exact unhide HB⟩
theorem rwr_any (r s:Bool) (q:List (List UInt8)) (n:Nat) (hn:q.length=n) (a:Option Addr) (cap:Nat) (w:World) (hrow:RowO w a q) (hsz:wt q≤100000) :
  Calls Tryz.prog 240 #[.agg #[.bool r,.bool s,.slice a n cap]] w fun e w'=>e=.returned (S (pw r s q))∧Below w.heap.size w w':=by
 have h2:∀ q:List (List UInt8),q.length≤wt q:=by
  intro q
  induction q with
  | nil=>simp
  | cons p r ih=>simp [wt];omega
 have:=h2 q
 cases r
 ·exact rwr_bare s q n hn (by omega) a cap w hrow hsz
 ·exact rwr_root s q n hn (by omega) a cap w hrow hsz
structure DJ (w W:World) (h:Nat) (r s:Bool) (a:Option Addr) (n cap:Nat) (q:List (List UInt8)):Prop where
 be:Below h w W
 k0:W.heap[h]?=some (.cells #[.bool false,.bool false,.slice none 0 0] 171)
 bx:W.heap[h + 1]?=some (.cells #[.bool r,.bool s,.slice a n cap] 171)
 ow:W.ownsRow h 9 1 (.slice a n cap) n (strs q)
theorem DJ.cells {w W:World} {h:Nat} {r s:Bool} {a:Option Addr} {n cap:Nat} {q:List (List UInt8)} (J:DJ w W h r s a n cap q):W.cell? ⟨h + 1,0,none⟩=some (.bool r)∧W.cell? ⟨h + 1,1,none⟩=some (.bool s)∧W.cell? ⟨h + 1,2,none⟩=some (.slice a n cap)∧W.frozen? ⟨h + 1,2,none⟩=false:=by
 refine ⟨?_,?_,?_,frozen_of J.bx 2⟩ <;> rw [cell_of J.bx] <;> rfl
theorem DJ.zero {w W:World} {h:Nat} {r s:Bool} {a:Option Addr} {n cap:Nat} {q:List (List UInt8)} (J:DJ w W h r s a n cap q):W.cell? ⟨h,0,none⟩=some (.bool false)∧W.cell? ⟨h,1,none⟩=some (.bool false)∧W.cell? ⟨h,2,none⟩=some (.slice none 0 0)∧W.frozen? ⟨h,0,none⟩=false∧W.frozen? ⟨h,1,none⟩=false∧W.frozen? ⟨h,2,none⟩=false:=by
 refine ⟨?_,?_,?_,frozen_of J.k0 0,frozen_of J.k0 1,frozen_of J.k0 2⟩ <;> rw [cell_of J.k0] <;> rfl
theorem DJ.drew {w W:World} {h:Nat} {r s:Bool} {a:Option Addr} {n cap:Nat} {q:List (List UInt8)} (J:DJ w W h r s a n cap q):DJ w W.drew h r s a n cap q :=
 ⟨below_drew J.be,J.k0,J.bx,own_keep J.ow fun _ _ _=>rfl⟩
theorem DJ.more {w X:World} {h:Nat} {r s:Bool} {a:Option Addr} {n cap:Nat} {q:List (List UInt8)} (J:DJ w X h r s a n cap q) (x:List UInt8) (hn:n≤10000) :
  ∃ a' cap' W6,AppRun 55 55 (.slice a n cap) (.slice (some ⟨X.heap.size,0,none⟩) 1 1) (X.alloc (.cells #[S x] 9)) (.slice a' (n + 1) cap') W6∧W6.cell? ⟨h + 1,2,none⟩=some (.slice a n cap)∧W6.frozen? ⟨h + 1,2,none⟩=false ∧
   DJ w (W6.setCell ⟨h + 1,2,none⟩ (.slice a' (n + 1) cap')) h r s a' (n + 1) cap' (q ++ [x]):=by
 obtain ⟨i0,hi,hz0,hz1,hz2⟩:=info_parts info9
 have hl:=lt_of_heap J.bx
 have own5:=own_keep (W':=X.alloc (.cells #[S x] 9)) J.ow (fun k cur hc=>Below.heap_alloc X _ _ (lt_of_heap hc))
 obtain ⟨v',W6,hrun,own6,hgr,-,-⟩:=run_append_own_at (P:=Tryz.prog) (X.alloc (.cells #[S x] 9)) h 55 55 9 i0 (.string ByteArray.empty) 1 16 Tryz.underlying55 hi hz0 hz1 hz2 rfl (by decide) (.slice a n cap) _ _ own5 ⟨X.heap.size,0,none⟩ 1 1 [S x] rfl (cell_one_new X _ _) (by intro u hu;simp at hu;subst hu;rfl) (by unfold maxLen;omega) (by omega) (by simp;omega)
 obtain ⟨a',c',rfl⟩:=own_form own6
 have b6:W6.heap[h + 1]?=some (.cells #[.bool r,.bool s,.slice a n cap] 171):=grown_keep J.ow hgr J.bx (by simp)
 have z6:W6.heap[h]?=some (.cells #[.bool false,.bool false,.slice none 0 0] 171):=grown_keep J.ow hgr J.k0 (by simp)
 have be6:Below h w W6:=below_grown (J.be.alloc (by omega) _) own5 hgr (by simp;omega)
 refine ⟨a',c',W6,⟨hrun⟩,by rw [cell_of b6];rfl,frozen_of b6 2,be6.setCell (p:=⟨h + 1,2,none⟩) (by simp) _,(Below.heap_setCell _ _ _ _ (by simp)).trans z6,?_,?_⟩
 ·rw [heap_set b6];simp
 ·have e2:strs (q ++ [x])=strs q ++ [S x]:=by simp [strs]
  rw [e2]
  refine own_keep own6 fun k cur hc=>Below.heap_setCell _ _ _ _ ?_
  rintro rfl
  rw [b6] at hc
  simp at hc
def mid (l:List UInt8) (f k:Nat):List UInt8:=(l.drop f).take (k - f)
theorem mid_none (l:List UInt8) (f:Nat):mid l f f=[]:=by simp [mid]
theorem mid_more {l:List UInt8} {f k:Nat} (hf:f≤k) (hk:k < l.length):mid l f (k + 1)=mid l f k ++ [l[k]]:=by
 unfold mid
 rw [show k + 1 - f=(k - f) + 1 by omega,List.take_add_one,List.getElem?_drop,show f + (k - f)=k by omega,List.getElem?_eq_getElem hk]
 rfl
theorem mid_len {l:List UInt8} {f k:Nat} (hk:k≤l.length):(mid l f k).length=k - f:=by
 unfold mid;simp;omega
theorem mid_cut {l:List UInt8} {f k:Nat} (hf:f≤k) (hk:k < l.length) (hc:l[k]=47):l.drop f=mid l f k ++ 47 :: l.drop (k + 1):=by
 unfold mid
 have h1:=(List.take_append_drop (k - f) (l.drop f)).symm
 rw [List.drop_drop,show f + (k - f)=k by omega] at h1
 rw [List.drop_eq_getElem_cons hk,hc] at h1
 exact h1
theorem mid_end {l:List UInt8} {f:Nat}:mid l f l.length=l.drop f:=by
 unfold mid
 rw [List.take_of_length_le];simp
theorem mid_slash {l:List UInt8} {f k:Nat} (hf:f≤k) (hk:k < l.length) (hc:l[k]=47) (hn:(47:UInt8) ∉ mid l f k):parts (l.drop f)=piece (mid l f k) ++ parts (l.drop (k + 1)):=by
 rw [mid_cut hf hk hc,parts_app,parts_plain hn]
theorem mid_last {l:List UInt8} {f:Nat} (hn:(47:UInt8) ∉ mid l f l.length):parts (l.drop f)=piece (mid l f l.length) ++ parts (l.drop (l.length + 1)):=by
 rw [List.drop_of_length_le (by omega:l.length≤l.length + 1),parts_nil,List.append_nil,mid_end] at *
 exact parts_plain hn
theorem mid_piece {l:List UInt8} {f k:Nat} (hk:k≤l.length):(f < k→piece (mid l f k)=[mid l f k])∧(¬ f < k→piece (mid l f k)=[]):=by
 have h:=mid_len (l:=l) (f:=f) hk
 constructor
 ·intro hl
  unfold piece
  rw [if_neg]
  intro e
  rw [e] at h
  simp at h;omega
 ·intro hl
  have:mid l f k=[]:=List.length_eq_zero_iff.1 (by omega)
  rw [this];rfl
theorem mid_bs (l:List UInt8) (f k:Nat):(bs l).extract f k=bs (mid l f k):=extract_bs l f k
theorem rt_byte {l:List UInt8} (he:err l=0) (h0:0 < l.length):rt l=(l[0] == 47):=by
 cases l with
 | nil=>simp at h0
 | cons c r=>simp [rt,he,prefix_cons]
theorem sl_byte {l:List UInt8} (he:err l=0) (h0:0 < l.length):sl l=(l[l.length - 1] == 47):=by
 have hn:l≠[]:=by rintro rfl;simp at h0
 have e:=(List.dropLast_concat_getLast hn).symm
 have e2:l[l.length - 1]=l.getLast hn:=by rw [List.getLast_eq_getElem]
 rw [e2]
 simp only [sl,he,decide_true,Bool.true_and]
 conv=>lhs;rw [e]
 exact suffix_app _ _
attribute [local go_sem ↓] Go.wp_at_zero Go.wp_at_succ
theorem store3 {w W:World} {h:Nat} {x0 x1 x2 y0 y1 y2:Value} (k0:W.heap[h]?=some (.cells #[x0,x1,x2] 171)) (be:Below h w W) :
  ∃ X,((W.setCell ⟨h,0,none⟩ y0).setCell ⟨h,1,none⟩ y1).setCell ⟨h,2,none⟩ y2=X∧X.cell? ⟨h,0,none⟩=some y0∧X.cell? ⟨h,1,none⟩=some y1∧X.cell? ⟨h,2,none⟩=some y2∧Below h w X∧∀ (k:Nat) (o:Obj),W.heap[k]?=some o→k≠h→X.heap[k]?=some o:=by
 have q0:(((W.setCell ⟨h,0,none⟩ y0).setCell ⟨h,1,none⟩ y1).setCell ⟨h,2,none⟩ y2).heap[h]?=some (.cells #[y0,y1,y2] 171):=by
  rw [heap_set (heap_set (heap_set k0 0 _) 1 _) 2 _];simp
 refine ⟨_,rfl,?_,?_,?_,((be.setCell (p:=⟨h,0,none⟩) (by simp) _).setCell (p:=⟨h,1,none⟩) (by simp) _).setCell (p:=⟨h,2,none⟩) (by simp) _,fun k o h1 h2=>?_⟩
 ·rw [cell_of q0];rfl
 ·rw [cell_of q0];rfl
 ·rw [cell_of q0];rfl
 ·rw [Below.heap_setCell _ _ _ _ h2,Below.heap_setCell _ _ _ _ h2,Below.heap_setCell _ _ _ _ h2];exact h1
theorem rread_first (l:List UInt8) (w:World) (x:Int) (hx:(l=[]∧x=32) ∨ (l≠[]∧4096 < l.length∧x=45)) :
  Calls Tryz.prog 102 #[S l] w fun e w'=>e=.returned (.tuple #[.agg #[.bool false,.bool false,.slice none 0 0],.int .i64 x])∧Below w.heap.size w w':=by
 obtain ⟨V,hV,BV,bV⟩:=box (W:=w) (.cells #[.bool false,.bool false,.slice none 0 0] 171)
 have c0:V.cell? ⟨w.heap.size,0,none⟩=some (.bool false):=by rw [cell_of bV];rfl
 have c1:V.cell? ⟨w.heap.size,1,none⟩=some (.bool false):=by rw [cell_of bV];rfl
 have c2:V.cell? ⟨w.heap.size,2,none⟩=some (.slice none 0 0):=by rw [cell_of bV];rfl
 replace hV:=hide hV
 clear bV
 rcases hx with ⟨rfl,rfl⟩ | ⟨h1,h2,rfl⟩
 ·go_enter Tryz.func102,Tryz.ntmps102
  go_wp2_with fail
  rw [unhide hV]
  exact bodyPost_ret (v:=.tuple #[.agg #[.bool false,.bool false,.slice none 0 0],.int .i64 32]) (by simp [results,Tryz.results102,go_sem,c0,c1,c2]) rfl ⟨rfl,BV⟩
 ·have h3:(4096:Int) < (l.length:Int):=by omega
  have h0:l.isEmpty=false:=by simpa using h1
  go_enter Tryz.func102,Tryz.ntmps102
  go_wp2_with fail
  rw [unhide hV]
  exact bodyPost_ret (v:=.tuple #[.agg #[.bool false,.bool false,.slice none 0 0],.int .i64 45]) (by simp [results,Tryz.results102,go_sem,c0,c1,c2]) rfl ⟨rfl,BV⟩
theorem rread_rest (l:List UInt8) (w:World) (h1:l≠[]) (h2:l.length≤4096) :
  Calls Tryz.prog 102 #[S l] w fun e w'=>∃ v,e=.returned (.tuple #[.agg #[.bool (rt l),.bool (sl l),v],.int .i64 (err l)])∧w'.ownsRow w.heap.size 9 1 v (ps l).length (strs (ps l))∧Below w.heap.size w w':=by
 have h3:¬ (4096:Int) < (l.length:Int):=by omega
 have h0:l.isEmpty=false:=by simpa using h1
 have hl0:0 < l.length:=by cases l with
  | nil=>exact absurd rfl h1
  | cons _ _=>simp
 obtain ⟨V,hV,BV,bV⟩:=box (W:=w) (.cells #[.bool false,.bool false,.slice none 0 0] 171)
 have HB:=hide BV
 have HV:=hide bV
 have hVs:=hide (show V.heap.size=w.heap.size + 1 by rw [← hV];simp)
 generalize hH:w.heap.size=h at *
 have HH:=hide hH
 replace hV:=hide hV
 clear BV bV
 go_enter Tryz.func102,Tryz.ntmps102
 go_wp2_with fail
 rw [unhide hV]
 clear hV hH
 go_loopw [4] (fun i wr=>∃ k:Nat,k≤l.length∧i=.int .i64 k∧(0:UInt8) ∉ l.take k∧wr=V) (fun i _=>l.length - (intOf i).toNat)
 case atStart=>exact ⟨0,by omega,rfl,by simp,rfl⟩
 case round =>
  obtain ⟨k,hk,rfl,n0,rfl⟩:=hrel
  by_cases hlt:k < l.length
  ·have j0:(0:Int)≤(k:Int):=by omega
   have j1:(k:Int) < (l.length:Int):=by omega
   have hkb:k < (bs l).size:=hlt
   have r0:l[k] ∈ l:=List.getElem_mem hlt
   by_cases c0:l[k]=0
   ·have he:err l=39:=by
     unfold err
     rw [if_neg h1,if_neg (by omega),if_pos (by rw [← c0];exact r0)]
    obtain ⟨d1,d2⟩:=is0 (show (bs l)[k]=0 from c0)
    obtain ⟨X,hX,x0,x1,x2,xB,-⟩:=store3 (y0:=.bool false) (y1:=.bool false) (y2:=.slice none 0 0) (unhide HV) (unhide HB)
    have y0:wr.cell? ⟨h,0,none⟩=some (.bool false):=by rw [cell_of (unhide HV)];rfl
    have y1:wr.cell? ⟨h,1,none⟩=some (.bool false):=by rw [cell_of (unhide HV)];rfl
    have y2:wr.cell? ⟨h,2,none⟩=some (.slice none 0 0):=by rw [cell_of (unhide HV)];rfl
    have f0:wr.frozen? ⟨h,0,none⟩=false:=frozen_of (unhide HV) 0
    have f1:wr.frozen? ⟨h,1,none⟩=false:=frozen_of (unhide HV) 1
    have f2:wr.frozen? ⟨h,2,none⟩=false:=frozen_of (unhide HV) 2
    replace hX:=hide hX
    replace xB:=hide xB
    replace he:=hide he
    clear n0 r0
    go_wp2_with fail
    rw [unhide hX]
    refine bodyPost_ret (v:=.tuple #[.agg #[.bool false,.bool false,.slice none 0 0],.int .i64 39]) (by simp [results,Tryz.results102,go_sem,x0,x1,x2]) rfl ?_
    have e0:=unhide he
    have e1:rt l=false:=by simp [rt,e0]
    have e2:sl l=false:=by simp [sl,e0]
    have e3:ps l=[]:=by simp [ps,e0]
    rw [e0,e1,e2,e3]
    exact ⟨_,rfl,World.ownsRow_nil _ _ _ _,unhide xB⟩
   ·obtain ⟨d1,d2⟩:=not0 (show ¬ (bs l)[k]=0 from c0)
    have m0:Hid ((0:UInt8) ∉ l.take (k + 1)):=hide (by rw [take_mem hlt];rintro (h | h);exact n0 h;exact c0 h.symm)
    have d5:(((bs l)[k].toNat:Int) == 0)=false:=by simpa using d2
    clear n0 r0
    go_wp2_with fail
    exact ⟨⟨k + 1,by omega,rfl,unhide m0,trivial⟩,by simp [intOf];omega⟩
  ·obtain rfl:k=l.length:=by omega
   have j1:¬ ((l.length:Nat):Int) < (l.length:Int):=by omega
   rw [List.take_length] at n0
   replace n0:=hide n0
   have i0:0 < (bs l).size:=hl0
   obtain ⟨p,hp⟩:∃ p,l.length - 1=p:=⟨_,rfl⟩
   have i1:p < (bs l).size:=by show p < l.length;omega
   have i2:(0:Int)≤(p:Int):=by omega
   have i3:(p:Int) < (l.length:Int):=by omega
   have i4:(l.length:Int) - 1=(p:Int):=by omega
   have i5:IntKind.i64.wrap (p:Int)=(p:Int):=by rw [IntKind.wrap_i64];omega
   have i6:IntKind.i64.wrap ((l.length:Int) - 1)=(p:Int):=by rw [i4,i5]
   have hp2:p < l.length:=by omega
   have b1:(((bs l)[0].toNat:Int) == 47)=(l[0] == 47):=by
    by_cases h:l[0]=47
    ·rw [(is47 (show (bs l)[0]=47 from h)).2];simp [h]
    ·have:=(not47 (show ¬ (bs l)[0]=47 from h)).2
     rw [show (l[0] == 47)=false from by simpa using h];simpa using this
   have b2:(((bs l)[p].toNat:Int) == 47)=(l[p] == 47):=by
    by_cases h:l[p]=47
    ·rw [(is47 (show (bs l)[p]=47 from h)).2];simp [h]
    ·have:=(not47 (show ¬ (bs l)[p]=47 from h)).2
     rw [show (l[p] == 47)=false from by simpa using h];simpa using this
   obtain ⟨br,hbr⟩:∃ br,(l[0] == 47)=br:=⟨_,rfl⟩
   obtain ⟨bl,hbl⟩:∃ bl,(l[p] == 47)=bl:=⟨_,rfl⟩
   rw [hbr] at b1
   rw [hbl] at b2
   replace hbr:=hide hbr
   replace hbl:=hide hbl
   replace hp:=hide hp
   go_wp2_with fail
   go_region
   rw [unhide hVs]
   have J0:DJ w (wr.alloc (.cells #[.bool br,.bool bl,.slice none 0 0] 171)).drew h br bl none 0 0 []:=by
    have hs:=unhide hVs
    have hn:(wr.alloc (.cells #[.bool br,.bool bl,.slice none 0 0] 171)).heap[h + 1]?=some (.cells #[.bool br,.bool bl,.slice none 0 0] 171):=putAll _ _ hs.symm
    exact ⟨below_drew ((unhide HB).alloc (by omega) _),(Below.heap_alloc wr _ _ (by omega)).trans (unhide HV),hn,World.ownsRow_nil _ _ _ _⟩
   generalize (wr.alloc (.cells #[.bool br,.bool bl,.slice none 0 0] 171)).drew=W1 at *
   replace J0:=hide J0
   clear b1 b2 i4 i5 i6 HV HB hVs
   go_wp2_with fail
   go_loopw [6,7] (fun f i wr=>∃ (k g M:Nat) (dn:List (List UInt8)) (a:Option Addr) (cap:Nat),k≤l.length + 1∧g≤k∧M≤k∧Hid (k=l.length + 1→g=k)∧i=.int .i64 k∧f=.int .i64 g∧Hid (parts l=dn ++ parts (l.drop g))∧Hid ((47:UInt8) ∉ mid l g k)∧Hid (dn.length=M)∧Hid (DJ w wr h br bl a M cap dn)) (fun _ i _=>l.length + 1 - (intOf i).toNat)
   case atStart=>exact ⟨0,0,0,[],none,0,by omega,by omega,by omega,hide (by omega),rfl,rfl,hide (by simp),hide (by simp [mid]),hide rfl,J0⟩
   case round =>
    obtain ⟨k,g,M,dn,a,cap,hk,hg,hM,hend,rfl,rfl,hpa,hno,hdn,J⟩:=hrel
    clear J0
    by_cases hlt:k < l.length
    ·have j0:(0:Int)≤(k:Int):=by omega
     have j1:(k:Int) < (l.length:Int):=by omega
     have j2:(k:Int)≤(l.length:Int):=by omega
     have hkl:k < l.length:=hlt
     have hkb:k < (bs l).size:=hkl
     by_cases c0:l[k]=47
     ·obtain ⟨d1,d2⟩:=is47 (show (bs l)[k]=47 from c0)
      have d5:(((bs l)[k].toNat:Int) == 47)=true:=by rw [d2];rfl
      have hpa2:=mid_slash hg hkl c0 (unhide hno)
      by_cases hgk:g < k
      ·have q1:(g:Int) < (k:Int):=by omega
       have q2:(0:Int)≤(g:Int):=by omega
       have q3:(g:Int)≤(k:Int):=by omega
       rw [(mid_piece (by omega)).1 hgk] at hpa2
       have hx:=mid_bs l g k
       obtain ⟨a',cap',W6,run1,d0,df,J6⟩:=(unhide J).drew.more (mid l g k) (by omega)
       obtain ⟨-,-,e2,-⟩:=(unhide J).cells
       have hlw:h + 1 < wr.heap.size:=lt_of_heap (unhide J).bx
       have hdn2:Hid ((dn ++ [mid l g k]).length=M + 1):=hide (by rw [List.length_append,unhide hdn];rfl)
       have hpa3:Hid (parts l=(dn ++ [mid l g k]) ++ parts (l.drop (k + 1))):=hide (by rw [unhide hpa,hpa2,List.append_assoc])
       generalize mid l g k=x at *
       replace J6:=hide J6
       clear hpa2 J hno hpa hdn hgk
       go_wp2_with fail
       go_region_law (refine step_append_g run1 _ _ (by rfl) (by rfl) (by rfl) (by rfl) (by rfl) ?_)
       all_goals
        generalize W6.setCell ⟨h + 1,2,none⟩ (.slice a' (M + 1) cap')=W7 at *
        clear run1 d0 df e2
        go_wp2_with fail
        go_roundw
        case rel=>exact ⟨k + 1,k + 1,M + 1,dn ++ [x],a',cap',by omega,by omega,by omega,hide (fun _=>rfl),by go_num,by go_num,hpa3,hide (by rw [mid_none];simp),hdn2,J6⟩
        case measure=>simp [intOf];omega
      ·have q1:¬ (g:Int) < (k:Int):=by omega
       rw [(mid_piece (by omega)).2 hgk,List.nil_append] at hpa2
       have hpa3:Hid (parts l=dn ++ parts (l.drop (k + 1))):=hide (by rw [unhide hpa,hpa2])
       clear hpa2 hno hpa hgk
       go_wp2_with fail
       exact ⟨⟨k + 1,k + 1,M,dn,a,cap,by omega,by omega,by omega,hide (fun _=>rfl),rfl,rfl,hpa3,hide (by rw [mid_none];simp),hdn,J⟩,by simp [intOf];omega⟩
     ·obtain ⟨d1,d2⟩:=not47 (show ¬ (bs l)[k]=47 from c0)
      have d5:(((bs l)[k].toNat:Int) == 47)=false:=by simpa using d2
      have hno2:=hide (show (47:UInt8) ∉ mid l g (k + 1) by
       rw [mid_more hg hkl,List.mem_append]
       rintro (h | h)
       ·exact unhide hno h
       ·simp at h;exact c0 h.symm)
      go_wp2_with fail
      exact ⟨⟨k + 1,g,M,dn,a,cap,by omega,by omega,by omega,hide (by omega),rfl,rfl,hpa,hno2,hdn,J⟩,by simp [intOf];omega⟩
    ·have j1:¬ (k:Int) < (l.length:Int):=by omega
     by_cases hke:k=l.length
     ·have j2:(k:Int)≤(l.length:Int):=by omega
      have j0:(0:Int)≤(k:Int):=by omega
      have hpa2:parts (l.drop g)=piece (mid l g k) ++ parts (l.drop (k + 1)):=by
       subst hke;exact mid_last (unhide hno)
      have hkle:k≤l.length:=by omega
      clear hke
      by_cases hgk:g < k
      ·have q1:(g:Int) < (k:Int):=by omega
       have q2:(0:Int)≤(g:Int):=by omega
       have q3:(g:Int)≤(k:Int):=by omega
       rw [(mid_piece (by omega)).1 hgk] at hpa2
       have hx:=mid_bs l g k
       obtain ⟨a',cap',W6,run1,d0,df,J6⟩:=(unhide J).drew.more (mid l g k) (by omega)
       obtain ⟨-,-,e2,-⟩:=(unhide J).cells
       have hlw:h + 1 < wr.heap.size:=lt_of_heap (unhide J).bx
       have hdn2:Hid ((dn ++ [mid l g k]).length=M + 1):=hide (by rw [List.length_append,unhide hdn];rfl)
       have hpa3:Hid (parts l=(dn ++ [mid l g k]) ++ parts (l.drop (k + 1))):=hide (by rw [unhide hpa,hpa2,List.append_assoc])
       generalize mid l g k=x at *
       replace J6:=hide J6
       clear hpa2 J hno hpa hdn hgk
       go_wp2_with fail
       go_region_law (refine step_append_g run1 _ _ (by rfl) (by rfl) (by rfl) (by rfl) (by rfl) ?_)
       all_goals
        generalize W6.setCell ⟨h + 1,2,none⟩ (.slice a' (M + 1) cap')=W7 at *
        clear run1 d0 df e2
        go_wp2_with fail
        go_roundw
        case rel=>exact ⟨k + 1,k + 1,M + 1,dn ++ [x],a',cap',by omega,by omega,by omega,hide (fun _=>rfl),by go_num,by go_num,hpa3,hide (by rw [mid_none];simp),hdn2,J6⟩
        case measure=>simp [intOf];omega
      ·have q1:¬ (g:Int) < (k:Int):=by omega
       rw [(mid_piece (by omega)).2 hgk,List.nil_append] at hpa2
       have hpa3:Hid (parts l=dn ++ parts (l.drop (k + 1))):=hide (by rw [unhide hpa,hpa2])
       clear hpa2 hno hpa hgk
       go_wp2_with fail
       exact ⟨⟨k + 1,k + 1,M,dn,a,cap,by omega,by omega,by omega,hide (fun _=>rfl),rfl,rfl,hpa3,hide (by rw [mid_none];simp),hdn,J⟩,by simp [intOf];omega⟩
     ·obtain rfl:k=l.length + 1:=by omega
      have j2:¬ (((l.length + 1:Nat):Int)≤(l.length:Int)):=by omega
      have hge:=unhide hend rfl
      have hall:Hid (parts l=dn):=hide (by
       rw [unhide hpa,hge,List.drop_of_length_le (by omega),parts_nil,List.append_nil])
      clear hge hend hno hpa hg
      have RW:=hide (RowO.of_own (unhide J).ow)
      obtain ⟨e0,e1,e2,-⟩:=(unhide J).cells
      obtain ⟨z0,z1,z2,f0,f1,f2⟩:=(unhide J).zero
      go_wp2_with fail
      go_loopw [8] (fun i wx=>∃ k:Nat,k≤M∧i=.int .i64 k∧Hid (∀ q ∈ dn.take k,q.length≤255)∧wx=wr) (fun i _=>M - (intOf i).toNat)
      case atStart=>exact ⟨0,by omega,rfl,hide (by simp),rfl⟩
      case round =>
       obtain ⟨k,hk2,rfl,hle,rfl⟩:=hrel
       by_cases hlt2:k < M
       ·have j3:(0:Int)≤(k:Int):=by omega
        have j4:(k:Int) < (M:Int):=by omega
        obtain ⟨x,hx⟩:∃ x,dn[k]?=some x:=⟨_,List.getElem?_eq_getElem (by rw [unhide hdn];exact hlt2)⟩
        obtain ⟨b,off,rfl,hb,cx⟩:=unhide RW k x hx
        by_cases hxl:255 < x.length
        ·have j5:(255:Int) < (x.length:Int):=by omega
         have he:err l=45:=by
          unfold err
          rw [if_neg h1,if_neg (by omega),if_neg (unhide n0),if_pos]
          rw [List.any_eq_true]
          exact ⟨x,by rw [unhide hall];exact List.mem_of_getElem? hx,by simpa using hxl⟩
         obtain ⟨X,hX,x0,x1,x2,xB,-⟩:=store3 (y0:=.bool false) (y1:=.bool false) (y2:=.slice none 0 0) (unhide J).k0 (unhide J).be
         replace hX:=hide hX
         replace xB:=hide xB
         replace he:=hide he
         clear hx
         go_wp2_with fail
         rw [unhide hX]
         refine bodyPost_ret (v:=.tuple #[.agg #[.bool false,.bool false,.slice none 0 0],.int .i64 45]) (by simp [results,Tryz.results102,go_sem,x0,x1,x2]) rfl ?_
         have e0:=unhide he
         have e1:rt l=false:=by simp [rt,e0]
         have e2:sl l=false:=by simp [sl,e0]
         have e3:ps l=[]:=by simp [ps,e0]
         rw [e0,e1,e2,e3]
         exact ⟨_,rfl,World.ownsRow_nil _ _ _ _,unhide xB⟩
        ·have j5:¬ (255:Int) < (x.length:Int):=by omega
         have hle2:Hid (∀ q ∈ dn.take (k + 1),q.length≤255):=hide (by
          intro q hq
          rw [List.take_add_one,hx] at hq
          rcases List.mem_append.1 hq with hq | hq
          ·exact unhide hle q hq
          ·simp at hq;subst hq;omega)
         clear hx hle
         go_wp2_with fail
         exact ⟨⟨k + 1,by omega,rfl,hle2,trivial⟩,by simp [intOf];omega⟩
       ·obtain rfl:k=M:=by omega
        have j4:¬ (k:Int) < (k:Int):=by omega
        have ht:dn.take k=dn:=List.take_of_length_le (by rw [unhide hdn];exact Nat.le_refl _)
        have hok:err l=0:=err_of h1 h2 (unhide n0) (by rw [unhide hall];rw [ht] at hle;exact unhide hle)
        have hR:rt l=br:=by rw [rt_byte hok hl0];exact unhide hbr
        have hS:sl l=bl:=by
         have h5:=unhide hp
         subst h5
         rw [sl_byte hok hl0];exact unhide hbl
        have hP:ps l=dn:=by simp only [ps,hok,if_true];exact unhide hall
        have HN:=hide (show _∧_∧_∧_ from ⟨hok,hR,hS,hP⟩)
        obtain ⟨X,hX,x0,x1,x2,xB,xK⟩:=store3 (y0:=.bool br) (y1:=.bool bl) (y2:=.slice a k cap) (unhide J).k0 (unhide J).be
        replace hX:=hide hX
        replace xB:=hide xB
        replace xK:=hide xK
        clear hok hR hS hP ht hle
        go_wp2_with fail
        rw [unhide hX]
        refine bodyPost_ret (v:=.tuple #[.agg #[.bool br,.bool bl,.slice a k cap],.int .i64 0]) (by simp [results,Tryz.results102,go_sem,x0,x1,x2]) rfl ?_
        obtain ⟨n1,n2,n3,n4⟩:=unhide HN
        rw [n1,n2,n3,n4,unhide hdn]
        refine ⟨_,rfl,own_keep (unhide J).ow fun j cur hc=>?_,unhide xB⟩
        rw [unhide xK j _ hc (by rintro rfl;rw [(unhide J).k0] at hc;simp at hc),hc]
theorem rread_any (l:List UInt8) (w:World):Calls Tryz.prog 102 #[S l] w fun e w'=>∃ a cap,e=.returned (.tuple #[.agg #[.bool (rt l),.bool (sl l),.slice a (ps l).length cap],.int .i64 (err l)])∧RowO w' a (ps l)∧Below w.heap.size w w':=by
 have key:Calls Tryz.prog 102 #[S l] w fun e w'=>∃ v,e=.returned (.tuple #[.agg #[.bool (rt l),.bool (sl l),v],.int .i64 (err l)])∧w'.ownsRow w.heap.size 9 1 v (ps l).length (strs (ps l))∧Below w.heap.size w w':=by
  by_cases h1:l=[]
  ·refine (rread_first l w 32 (.inl ⟨h1,rfl⟩)).mono ?_
   rintro e w' ⟨rfl,hB⟩
   subst h1
   exact ⟨_,rfl,World.ownsRow_nil _ _ _ _,hB⟩
  ·by_cases h2:4096 < l.length
   ·have he:=long_err h2
    have e1:rt l=false:=by simp [rt,he]
    have e2:sl l=false:=by simp [sl,he]
    have e3:ps l=[]:=by simp [ps,he]
    rw [e1,e2,e3,he]
    refine (rread_first l w 45 (.inr ⟨h1,h2,rfl⟩)).mono ?_
    rintro e w' ⟨rfl,hB⟩
    exact ⟨_,rfl,World.ownsRow_nil _ _ _ _,hB⟩
   ·exact rread_rest l w h1 (by omega)
 refine key.mono ?_
 rintro e w' ⟨v,rfl,own,hB⟩
 obtain ⟨a,cap,rfl⟩:=own_form own
 exact ⟨a,cap,rfl,RowO.of_own own,hB⟩
end Go.Proofs.YtlngeaacjbdmhaaGreat.Nm
namespace Go.Proofs.YtlngeaacjbdmhaaGreat.Wl
open Go.RowKit
attribute [local go_sem ↓] Go.wp_at_zero Go.wp_at_succ
structure Rd (lo R:Nat) (W:World) (r:Nat) (E:En) (rs:List Mt.Rm):Prop where
 d:Rf.Dq lo 20 W r E.T
 f:Wf 880 E.T
 b:Mt.Rs R W (R + 1) rs
 rt:Mt.RT ⟨E.rt,E.md,E.es⟩ rs
 mf:Mt.Wf 90 ⟨E.rt,E.md,E.es⟩
 wf:∀ p ∈ E.es,(kl p.top).wf=true∧(kl p.an).wf=true
section
variable {lo R:Nat} {W W':World} {r b:Nat} {E:En} {rs:List Mt.Rm}
theorem Rd.below (h:Rd lo R W r E rs) (g:Below W.heap.size W W'):Rd lo R W' r E rs:=⟨h.d.below g,h.f,h.b.below g,h.rt,h.mf,h.wf⟩
theorem Rd.downed (h:Rd lo R W r E rs):Rd lo R W r E.downed rs:=⟨h.d,h.f,h.b,h.rt,h.mf,h.wf⟩
theorem Rd.len (h:Rd lo R W r E rs):rs.length≤100:=by
 have h1:(rs.length:Int)=E.md + 1:=h.rt.len
 have h2:E.md≤90:=h.mf.pos.2
 omega
theorem stat_R (h:Rd lo R W r E rs) {n:Int} (hn:(kl n).wf=true) {v:Value} {f:Bool} (hv:E.T.stat n=v) (hf:(E.T.nd n).isSome=f) (V:World) (g:Below W.heap.size W V) :
  Calls Tryz.prog 88 #[P0 r,I n] V fun e w'=>e=.returned (.tuple #[v,.bool f])∧Hid (Below V.heap.size V w'):=by
 obtain ⟨p,Lv,nb,ev,uv,h1,-⟩:=h.d.below g
 subst hv
 subst hf
 unfold Tr.stat
 cases hx:E.T.nd n with
 | none=>exact Rf.dStat_none h1 h.f (by omega) n hn hx
 | some x=>exact Rf.dStat_some h1 h.f (by omega) n hn hx
theorem root_R (h:Rd lo R W r E rs) (x:Int) {v:Int} {f:Bool} (hv:Mt.rootTop E.rt E.es x=v) (hf:Mt.rootIs E.es x=f) (V:World) (g:Below W.heap.size W V) :
  Calls Tryz.prog 107 #[P0 (R + 1),I x] V fun e w'=>e=.returned (.tuple #[I v,.bool f])∧Hid (Below V.heap.size V w'):=by
 refine (Mt.rroot_any R (R + 1) rs x V (h.b.below g)).mono ?_
 rintro e w' ⟨rfl,rfl⟩
 have e1:=h.rt.root h.mf x
 have e2:=h.rt.is h.mf x
 rw [e1,e2]
 rw [← hv,← hf]
 exact ⟨rfl,Below.refl _ _⟩
theorem down_R (h:Rd lo R W r E rs) (x y:Int) {p q:Int} (hp:(E.down x y).1=p) (hq:(E.down x y).2=q) (V:World) (g:Below W.heap.size W V) :
  Calls Tryz.prog 103 #[P0 (R + 1),.agg #[I x,I y]] V fun e w'=>e=.returned (.agg #[I p,I q])∧Hid (Below V.heap.size V w'):=by
 rw [← hp,← hq]
 exact Mt.rdown_any h.rt h.mf (h.b.below g) h.len x y
theorem up_R (h:Rd lo R W r E rs) (x y:Int) {p q:Int} {f:Bool} (hp:Mt.upM E.es x y=p) (hq:Mt.upN E.es x y=q) (hf:Mt.upIs E.es x y=f) (V:World) (g:Below W.heap.size W V) :
  Calls Tryz.prog 239 #[P0 (R + 1),.agg #[I x,I y]] V fun e w'=>e=.returned (.tuple #[.agg #[I p,I q],.bool f])∧Hid (Below V.heap.size V w'):=by
 rw [← hp,← hq,← hf]
 exact Mt.rup_any h.rt h.mf (h.b.below g) x y
theorem tup_R (h:Rd lo R W r E rs) {n:Int} (hn:(kl n).wf=true) {z:Int} (hz:E.T.up n=z) (V:World) (g:Below W.heap.size W V) :
  Calls Tryz.prog 90 #[P0 r,I n] V fun e w'=>e=.returned (I z)∧Hid (Below V.heap.size V w'):=by
 refine (Rf.dUp_D (h.d.below g) h.f.k (by omega) n hn).mono ?_
 rintro e w' ⟨rfl,rfl⟩
 rw [hz]
 exact ⟨rfl,Below.refl _ _⟩
theorem text_R (h:Rd lo R W r E rs) {n:Int} (hn:(kl n).wf=true) {s:ByteArray} (hs:E.T.textOf n=s) (V:World) (g:Below W.heap.size W V) :
  Calls Tryz.prog 91 #[P0 r,I n] V fun e w'=>e=.returned (.string s)∧w'=V:=by
 rw [← hs]
 exact Rf.dText_D (h.d.below g) h.f.k (by omega) n hn
theorem find_R (h:Rd lo R W r E rs) {n:Int} (hn:(kl n).wf=true) (s:ByteArray) (x0:Int) (f:Bool) (hx0:(E.T.findN n s).getD 0=x0) (hf:(E.T.findN n s).isSome=f) (V:World) (g:Below W.heap.size W V) :
  Calls Tryz.prog 93 #[P0 r,I n,.string s] V fun e w'=>e=.returned (.tuple #[I x0,.bool f])∧Hid (Below V.heap.size V w'):=by
 refine (Rf.dFind_D (h.d.below g) h.f.k (by omega) n hn s x0 f hx0 hf).mono ?_
 rintro e w' ⟨rfl,k,rfl⟩
 exact ⟨rfl,below_n V k⟩
theorem rplace_any (D:Rd lo R W r E rs) (x y:Int) (hn:(kl y).wf=true) (o:Bool) (hr:E.place x y=o) :
  Calls Tryz.prog 36 #[P0 r,P0 (R + 1),.agg #[I x,I y]] W fun e w'=>e=.returned (.bool o)∧Below W.heap.size W w':=by
 obtain ⟨a,mo,u,g,l,z,hst,-⟩:=stat_shape E.T y
 obtain ⟨f,hf⟩:∃ f,(E.T.nd y).isSome=f:=⟨_,rfl⟩
 obtain ⟨K,hK⟩:∃ K,K=E.T.kindOf y:=⟨_,rfl⟩
 rw [← hK] at hst
 obtain ⟨f2,hf2⟩:∃ f,Mt.rootIs E.es x=f:=⟨_,rfl⟩
 obtain ⟨V,hV,g1,hB⟩:∃ V,W.alloc (.cells #[I x,I y] 50)=V∧V.heap[W.heap.size]?=some (.cells #[I x,I y] 50)∧Below W.heap.size W V:=⟨_,rfl,heap_alloc_new W _,(Below.refl _ W).alloc (Nat.le_refl _) _⟩
 have v0:V.cell? ⟨W.heap.size,0,none⟩=some (I x):=by rw [cell_of g1];rfl
 have v1:V.cell? ⟨W.heap.size,1,none⟩=some (I y):=by rw [cell_of g1];rfl
 have HS:=hide (stat_R D hn hst hf V hB)
 have HR:=hide (fun V' g'=>root_R D x rfl hf2 V' g')
 have HB:=hide hB
 have hl:=lt_of_heap g1
 have er:o=(f && f2):=by rw [← hr,En.place,hf,hf2]
 have Her:=hide er
 clear D hst hf hK hn hB g1 hf2 hr er
 generalize Mt.rootTop E.rt E.es x=tp at *
 go_enter Tryz.func36,Tryz.ntmps36
 go_wp2_with fail
 refine (unhide HS).mono ?_
 rintro e w2 ⟨rfl,HB2⟩
 obtain ⟨Z,hZ,hBZ⟩:∃ Z,w2.alloc (.cells #[I a,I K,I mo,I u,I g,I l,I z] 33)=Z∧Below V.heap.size V Z:=⟨_,rfl,(unhide HB2).alloc (unhide HB2).size _⟩
 have u0:=cell_be v0 hBZ
 have HBW:=hide ((unhide HB).trans (hBZ.mono (Nat.le_of_lt hl)))
 have HR2:=hide (unhide HR Z (unhide HBW))
 clear v0 v1 HS HB2 hBZ HR
 go_wp2_with fail
 refine (unhide HR2).mono ?_
 rintro e w3 ⟨rfl,HB3⟩
 have HF:=hide ((unhide HBW).trans ((unhide HB3).mono (unhide HBW).size))
 clear HR2 HB3 HBW u0 hZ
 cases f with
 | true =>
  go_wp2_with fail
  go_ret
  exact ⟨by rw [unhide Her];simp,unhide HF⟩
 | false =>
  go_wp2_with fail
  go_ret
  exact ⟨by rw [unhide Her];simp,unhide HF⟩
end
end Go.Proofs.YtlngeaacjbdmhaaGreat.Wl
