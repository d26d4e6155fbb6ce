/-
  Regions that draw their order, in a round of a range over a function; new blocks.
-/
import Derived.Test.YthmdipfdloennaaLp17
import Derived.Test.YthmdipfdloennaaLp10
import Derived.Shelf.Abstract
import Derived.Shelf.RegionOpen
import Derived.OwnWalkIn
import Derived.TacticsInMore
import Derived.LoopNIn
import Derived.LoopIn
namespace Go.Proofs.Ythmdipfdloennaa.Nm
open Go.RowKit Go.Shelf

section
variable {n l : Nat} {P : Program} {ops : Array Oper} {Q : Exit → Act → World → Prop} {md : Region.Mode}
def noDefer (o : Oper) : Bool := match o.op with | .defer _ => false | _ => true
theorem noDefer_spec {o : Oper} (h : noDefer o = true) : ∀ c, o.op ≠ .defer c := by
  intro c hc
  simp [noDefer, hc] at h
theorem uponIn_round {o : Oper} {a : Act} {K : Act → World → Prop} {r : Result Next} (h : o.uponIn Fence.wide n P a K Q r) : o.uponIn (Fence.wide.inRound l) n P a K Q r := by
  cases r with
  | ok x w' => cases x <;> exact h
  | halt x w' => cases x <;> exact h
theorem wpOpIn_round {i : Nat} {K : Act → World → Prop} {a : Act} {w : World} (hd : ops.all noDefer = true) (h : wpOpIn Fence.wide n P ops Q i K a w) : wpOpIn (Fence.wide.inRound l) n P ops Q i K a w := by
  unfold wpOpIn at *
  cases ho : ops[i]? with
  | none => simpa [ho] using h
  | some o =>
    simp only [ho] at h ⊢
    have hn : ∀ c, o.op ≠ .defer c := noDefer_spec (by
      obtain ⟨hl, he⟩ := Array.getElem?_eq_some_iff.1 ho
      rw [Array.all_eq_true] at hd
      rw [← he]; exact hd i hl)
    split
    · rename_i hw
      simp only [hw, if_true] at h
      refine ⟨fun _ _ => trivial, ?_⟩
      have h2 := h.2
      rw [show (Fence.wide.inRound l).round = some l from rfl, Oper.semAt_some _ _ _ hn]
      rw [show Fence.wide.round = none from rfl, Oper.semAt_none] at h2
      exact uponIn_round h2
    · rename_i hw
      simp only [hw] at h
      exact h
theorem wpAnyIn_round (hd : ops.all noDefer = true) : ∀ (fuel : Nat) (listed : Array Bool) (a : Act) (w : World), wpAnyIn Fence.wide n P md ops Q fuel listed a w → wpAnyIn (Fence.wide.inRound l) n P md ops Q fuel listed a w
  | 0, _, _, _, h => h
  | fuel + 1, _, _, _, h => ⟨h.1, fun i hi => wpOpIn_mono (fun a w hh => wpAnyIn_round hd fuel _ a w hh) (wpOpIn_round hd (h.2 i hi))⟩
theorem wpIn_region_round {id : Nat} {a : Act} {w : World} (hm : P.follows .mixedOrders = true) (hd : ops.all noDefer = true)
    (h : wpAnyIn Fence.wide n P .any ops Q ops.size (Array.replicate ops.size false) a w.drew) : (Code.region id ops true).wpIn (Fence.wide.inRound l) n P Q a w :=
  wpIn_region_any hm (wpAnyIn_round hd _ _ _ _ h)

theorem stepIn_append_eq {w : World} {o : Oper} {a : Act} {K : Act → World → Prop} {E : Prop} (hgd : o.guard = none) (s x : Operand) (t : TypeId)
    (ho : o.op = .call { callee := .builtin .append, args := #[s, x], argTypes := #[t, t] }) (ty : TypeId) (hty : o.type = ty) (vs vx : Value) (hs : a.eval s = vs) (hx : a.eval x = vx) (v' : Value) (w' : World)
    (hrun : (Builtin.append_ #[t, t] ty #[vs, vx]).run P w = .ok v' w') (h : K (a.put o.dst v') w') :
    if Region.wanted o (yielded ops a.tmps) = true then Oper.wpIn Fence.wide n P o a w K Q else E := by
  have hw : Region.wanted o (yielded ops a.tmps) = true := by simp [Region.wanted, hgd]
  rw [if_pos hw]
  refine ⟨fun _ _ => trivial, ?_⟩
  rw [show Fence.wide.round = none from rfl, Oper.semAt_none]
  unfold execOp
  simp only [ho, resolve, invoke, builtin, Sem.run_bind, Sem.run_pure, Result.andThen_ok, List.map_toArray, List.map_cons, List.map_nil, hs, hx, hty, hrun]
  exact h
end
theorem grown_keep {W W5 : World} {base : Nat} {e : TypeId} {s n k : Nat} {v : Value} {xs : List Value} {o o' : Obj} (own : W.ownsRow base e s v n xs) (hg : (W.alloc o').grownBy W5 v.ownBlock) (h : W.heap[k]? = some o) (hne : ∀ cur, o ≠ .cells cur e (0, 0)) : W5.heap[k]? = some o := by
  have h3 := hg.block k (by simp; exact Nat.lt_succ_of_lt (lt_of_heap h)) (own_ne own h hne)
  rw [Below.heap_alloc _ _ _ (lt_of_heap h)] at h3
  exact h3.trans h

theorem put_other {W : World} {r r' : Loop} {L k : Nat} {o : Obj} (hl : W.heap[L]? = some (.loop r)) (h : W.heap[k]? = some o) (hne : ∀ r, o ≠ .loop r) : (W.putObj L (.loop r')).heap[k]? = some o :=
  (World.putObj_heap_other (by rintro rfl; rw [hl] at h; exact hne _ (Option.some.inj h).symm)).trans h
theorem own_put {W : World} {r r' : Loop} {L base : Nat} {e : TypeId} {s n : Nat} {v : Value} {xs : List Value} (h : W.ownsRow base e s v n xs) (hl : W.heap[L]? = some (.loop r)) : (W.putObj L (.loop r')).ownsRow base e s v n xs :=
  own_keep h fun k cur hc => (put_other hl hc (by simp)).trans hc.symm

theorem setup (w : World) (r : Loop) : ((w.alloc (.deferred (some []))).alloc (.loop r)).heap[w.heap.size + 1]? = some (.loop r) ∧ ((w.alloc (.deferred (some []))).alloc (.loop r)).heap[w.heap.size]? = some (.deferred (some [])) ∧ Below w.heap.size w ((w.alloc (.deferred (some []))).alloc (.loop r)) :=
  ⟨putAll _ _ (by simp), (Below.heap_alloc _ _ _ (by simp)).trans (putAll _ _ rfl), ((Below.refl _ _).alloc (Nat.le_refl _) _).alloc (by simp) _⟩

theorem two0 (w : World) (o1 o2 : Obj) : ∃ V : World, ((w.alloc o1).alloc o2) = V ∧ V.heap.size = w.heap.size + 2 ∧ V.heap[w.heap.size]? = some o1 ∧ V.heap[w.heap.size + 1]? = some o2 ∧ Below w.heap.size w V := by
  refine ⟨_, rfl, by simp, ?_, ?_, ?_⟩
  · rw [Below.heap_alloc _ _ _ (by simp)]; exact putAll _ _ rfl
  · exact putAll _ _ (by simp)
  · exact ((Below.refl w.heap.size w).alloc (Nat.le_refl _) o1).alloc (by simp) o2
theorem four0 (w : World) (o1 o2 o3 o4 : Obj) : ∃ V : World, (((w.alloc o1).alloc o2).alloc o3).alloc o4 = V ∧ V.heap.size = w.heap.size + 4 ∧ V.heap[w.heap.size]? = some o1 ∧ V.heap[w.heap.size + 1]? = some o2 ∧ V.heap[w.heap.size + 2]? = some o3 ∧ V.heap[w.heap.size + 3]? = some o4 ∧ Below w.heap.size w V := by
  obtain ⟨V, hV, hs, g0, g1, hB⟩ := two0 w o1 o2
  obtain ⟨V2, hV2, hs2, g2, g3, hB2⟩ := two0 V o3 o4
  rw [hV, hV2]
  rw [hs] at g2 g3 hs2
  exact ⟨V2, rfl, hs2, (hB2.block _ (by omega)).trans g0, (hB2.block _ (by omega)).trans g1, g2, g3, hB.trans (hB2.mono (by omega))⟩
theorem three0 (w : World) (o1 o2 o3 : Obj) : ∃ V : World, ((w.alloc o1).alloc o2).alloc o3 = V ∧ V.heap.size = w.heap.size + 3 ∧ V.heap[w.heap.size]? = some o1 ∧ V.heap[w.heap.size + 1]? = some o2 ∧ V.heap[w.heap.size + 2]? = some o3 ∧ Below w.heap.size w V := by
  obtain ⟨V, hV, hs, g0, g1, hB⟩ := two0 w o1 o2
  rw [hV]
  refine ⟨_, rfl, by simp [hs], (Below.heap_alloc _ _ _ (by omega)).trans g0, (Below.heap_alloc _ _ _ (by omega)).trans g1, putAll _ _ hs.symm, hB.alloc (by omega) o3⟩
end Go.Proofs.Ythmdipfdloennaa.Nm

/-
  The contract of Write.
-/
namespace Go.Proofs.Ythmdipfdloennaa.Nm
open Go.RowKit
attribute [local go_sem ↓] Go.wp_at_zero Go.wp_at_succ

/-- What lies while Write goes on: the path, and the builder behind it. -/
structure WJ (w W : World) (h : Nat) (r s : Bool) (v : Value) (acc : List UInt8) : Prop where
  be : Below h w W
  bx : W.heap[h]? = some (.cells #[.bool r, .bool s, v] 85)
  bd : Lib.IsBuilder 143 5 (h + 1) (h + 1) (Lib.byteCells acc) W
theorem WJ.sz {w W : World} {h : Nat} {r s : Bool} {v : Value} {acc : List UInt8} (J : WJ w W h r s v acc) : h + 1 < W.heap.size := by
  rcases J.bd with hb | hb <;> exact hb.lt
theorem WJ.write {w W : World} {h : Nat} {r s : Bool} {v : Value} {acc : List UInt8} (J : WJ w W h r s v acc) (l : List UInt8) (hl : acc.length + l.length ≤ 1000000000) :
    Calls Try.prog 84 #[.pointer (some ⟨h + 1, 0, none⟩), S l] W fun e w' => e = .returned (.tuple #[.int .i64 l.length, .nilIface]) ∧ WJ w w' h r s v (acc ++ l) := by
  have := J.sz
  refine (write_any (h + 1) (h + 1) acc l W J.bd (by omega) (by omega)).mono ?_
  rintro e w' ⟨rfl, h1, h2⟩
  exact ⟨rfl, J.be.trans (h2.mono (by omega)), (h2.block h (by omega)).trans J.bx, h1⟩
theorem WJ.cells {w W : World} {h : Nat} {r s : Bool} {v : Value} {acc : List UInt8} (J : WJ w W h r s v acc) : W.cell? ⟨h, 0, none⟩ = some (.bool r) ∧ W.cell? ⟨h, 1, none⟩ = some (.bool s) ∧ W.cell? ⟨h, 2, none⟩ = some v := by
  refine ⟨?_, ?_, ?_⟩ <;> rw [cell_of J.bx] <;> rfl
theorem WJ.done {w W : World} {h : Nat} {r s : Bool} {v : Value} {acc : List UInt8} (J : WJ w W h r s v acc) :
    Calls Try.prog 85 #[.pointer (some ⟨h + 1, 0, none⟩)] W fun e w' => e = .returned (S acc) ∧ Below h w w' := by
  have := J.sz
  refine (Try.Builder_String_any (h + 1) (h + 1) acc W J.bd (by omega)).mono ?_
  rintro e w' ⟨rfl, h2⟩
  exact ⟨rfl, J.be.trans (h2.mono (by omega))⟩
theorem join_take (q : List (List UInt8)) (i : Nat) (x : List UInt8) (h : q[i]? = some x) : joinS (q.take (i + 1)) = joinS (q.take i) ++ ((if 0 < i then [47] else []) ++ x) := by
  induction q generalizing i with
  | nil => simp at h
  | cons p r ih =>
    cases i with
    | zero => simp at h; subst h; simp [joinS]
    | succ j =>
      have h1 : r[j]? = some x := by simpa using h
      have h2 := ih j h1
      rw [List.take_succ_cons, List.take_succ_cons]
      cases r with
      | nil => simp at h1
      | cons y t =>
        cases j with
        | zero =>
          simp at h1; subst h1
          simp [joinS]
        | succ k =>
          rw [List.take_succ_cons] at h2 ⊢
          rw [List.take_succ_cons] at h2 ⊢
          rw [joinS_cons, joinS_cons, h2]
          simp
theorem wt_take (q : List (List UInt8)) (i : Nat) : wt (q.take i) ≤ wt q := by
  have h := wt_app (q.take i) (q.drop i)
  rw [List.take_append_drop] at h
  omega

set_option maxRecDepth 100000 in
set_option maxHeartbeats 2000000 in
theorem wr_root (s : Bool) (q : List (List UInt8)) (n : Nat) (hn : q.length = n) (hn2 : n ≤ 100000000) (a : Option Addr) (cap : Nat) (w : World) (hrow : RowO w a q) (hsz : wt q ≤ 100000000) :
    Calls Try.prog 72 #[.agg #[.bool true, .bool s, .slice a n cap]] w fun e w' => e = .returned (S (pw true s q)) ∧ Below w.heap.size w w' := by
  obtain ⟨V, hV, hsz0, g0, g1, hB⟩ := two0 w (.cells #[.bool true, .bool s, .slice a n cap] 85) (.cells #[.pointer none, .slice none 0 0] 143)
  replace hV := hide hV
  generalize hh : w.heap.size = h at *
  have J0 : WJ w V h true s (.slice a n cap) [] := ⟨hB, g0, .inl ⟨Nat.le_refl _, .slice none 0 0, g1, World.ownsRow_nil _ _ _ _, by simp [Value.ownBlock]⟩⟩
  replace J0 := hide J0
  have HROW := hide hrow
  have HH := hide hh
  have HN := hide hn
  clear hB g0 g1 hsz0 hrow hn
  go_enter Try.func72, Try.ntmps72
  go_wp2_with fail
  rw [unhide hV]
  refine ((unhide J0).write [47] (by simp)).mono ?_
  rintro e w1 ⟨rfl, J1⟩
  replace J1 := hide J1
  clear J0
  obtain ⟨e0, e1, e2⟩ := (unhide J1).cells
  go_wp2_with fail
  clear e0 e1 e2
  go_loopw [12] (fun i wr => ∃ k : Nat, k ≤ n ∧ i = .int .i64 k ∧ WJ w wr h true s (.slice a n cap) (([47] : List UInt8) ++ joinS (q.take k))) (fun i _ => n - (intOf i).toNat)
  case atStart => exact ⟨0, by omega, rfl, by simpa [joinS] using unhide J1⟩
  case round =>
    obtain ⟨k, hk, rfl, J⟩ := hrel
    by_cases hlt : k < n
    · have j0 : (0 : Int) ≤ (k : Int) := by omega
      have j1 : (k : Int) < (n : Int) := by omega
      obtain ⟨x, hx⟩ : ∃ x, q[k]? = some x := ⟨_, List.getElem?_eq_getElem (by rw [unhide HN]; exact hlt)⟩
      obtain ⟨b, off, rfl, hb, c1⟩ := unhide HROW k x hx
      have c2 : wr.cell? ⟨b, off + k, none⟩ = some (.string (bs x)) := (World.cell?_of_block (J.be.block b (by rw [← unhide HH]; exact hb))).trans c1
      have hjt := hide (join_take q k x hx)
      have hb1 : (joinS (q.take k)).length ≤ 100000000 := Nat.le_trans (join_le _) (Nat.le_trans (wt_take q k) hsz)
      have hb2 : (joinS (q.take (k + 1))).length ≤ 100000000 := Nat.le_trans (join_le _) (Nat.le_trans (wt_take q _) hsz)
      have hb3 : (joinS (q.take k)).length + ((if 0 < k then ([47] : List UInt8) else []).length + x.length) ≤ 100000000 := by
        have := hb2; rw [unhide hjt] at this; simpa using this
      clear hx c1 hb hb2
      by_cases h0 : 0 < k
      · have k0 : (0 : Int) < (k : Int) := by omega
        rw [if_pos h0] at hb3
        replace hb1 := hide hb1
        replace hb3 := hide hb3
        replace J := hide J
        clear h0
        go_wp2_with fail
        refine ((unhide J).write [47] (by have := unhide hb1; simp; omega)).mono ?_
        rintro e w1 ⟨rfl, J3⟩
        replace J3 := hide J3
        go_wp2_with fail
        refine ((unhide J3).write x (by have := unhide hb3; simp at this ⊢; omega)).mono ?_
        rintro e w2 ⟨rfl, J4⟩
        replace J4 := hide J4
        go_wp2_with fail
        refine ⟨⟨k + 1, by omega, rfl, ?_⟩, by simp [intOf]; omega⟩
        rw [unhide hjt, if_pos (by omega)]
        simpa using unhide J4
      · obtain rfl : k = 0 := by omega
        replace hb1 := hide hb1
        replace hb3 := hide hb3
        replace J := hide J
        have c3 : wr.cell? ⟨b, off, none⟩ = some (.string (bs x)) := c2
        have j2 : ¬ ((0 : Int) < ((0 : Nat) : Int)) := by omega
        clear h0 c2
        go_wp2_with fail
        refine ((unhide J).write x (by have := unhide hb3; simp at this ⊢; omega)).mono ?_
        rintro e w2 ⟨rfl, J4⟩
        replace J4 := hide J4
        go_wp2_with fail
        refine ⟨⟨1, by omega, rfl, ?_⟩, by simp [intOf]; omega⟩
        rw [unhide hjt]
        simpa using unhide J4
    · obtain rfl : k = n := by omega
      have j1 : ¬ (k : Int) < (k : Int) := by omega
      have hq : q.take k = q := List.take_of_length_le (by rw [unhide HN]; exact Nat.le_refl _)
      rw [hq] at J
      clear hq
      have hb1 : (joinS q).length ≤ 100000000 := Nat.le_trans (join_le _) hsz
      obtain ⟨e0, e1, e2⟩ := J.cells
      replace J := hide J
      by_cases h0 : 0 < k
      · have k0 : (0 : Int) < (k : Int) := by omega
        have hne : q.isEmpty = false := by
          cases q with
          | nil => have := unhide HN; simp at this; omega
          | cons _ _ => rfl
        cases s with
        | true =>
          have hw : Hid (pw true true q = ([47] : List UInt8) ++ joinS q ++ [47]) := hide (by simp [pw, hne])
          replace hb1 := hide hb1
          clear h0 hne
          go_wp2_with fail
          refine ((unhide J).write [47] (by have := unhide hb1; simp; omega)).mono ?_
          rintro e w1 ⟨rfl, J3⟩
          replace J3 := hide J3
          go_wp2_with fail
          refine ((unhide J3).done).mono ?_
          rintro e w1 ⟨rfl, B3⟩
          replace B3 := hide B3
          go_wp2_with fail
          go_ret
          exact ⟨by rw [unhide hw]; rfl, unhide B3⟩
        | false =>
          have hw : Hid (pw true false q = ([47] : List UInt8) ++ joinS q) := hide (by simp [pw])
          clear h0 hne
          go_wp2_with fail
          refine ((unhide J).done).mono ?_
          rintro e w1 ⟨rfl, B3⟩
          replace B3 := hide B3
          go_wp2_with fail
          go_ret
          exact ⟨by rw [unhide hw]; rfl, unhide B3⟩
      · obtain rfl : k = 0 := by omega
        have hq0 : q = [] := List.length_eq_zero_iff.1 (unhide HN)
        have k0 : ¬ ((0 : Int) < ((0 : Nat) : Int)) := by omega
        have hw : Hid (pw true s q = ([47] : List UInt8) ++ joinS q) := hide (by simp [pw, hq0])
        clear h0 hq0
        cases s with
        | true =>
          go_wp2_with fail
          refine ((unhide J).done).mono ?_
          rintro e w1 ⟨rfl, B3⟩
          replace B3 := hide B3
          go_wp2_with fail
          go_ret
          exact ⟨by rw [unhide hw]; rfl, unhide B3⟩
        | false =>
          go_wp2_with fail
          refine ((unhide J).done).mono ?_
          rintro e w1 ⟨rfl, B3⟩
          replace B3 := hide B3
          go_wp2_with fail
          go_ret
          exact ⟨by rw [unhide hw]; rfl, unhide B3⟩
set_option maxRecDepth 100000 in
set_option maxHeartbeats 2000000 in
theorem wr_bare (s : Bool) (q : List (List UInt8)) (n : Nat) (hn : q.length = n) (hn2 : n ≤ 100000000) (a : Option Addr) (cap : Nat) (w : World) (hrow : RowO w a q) (hsz : wt q ≤ 100000000) :
    Calls Try.prog 72 #[.agg #[.bool false, .bool s, .slice a n cap]] w fun e w' => e = .returned (S (pw false s q)) ∧ Below w.heap.size w w' := by
  obtain ⟨V, hV, hsz0, g0, g1, hB⟩ := two0 w (.cells #[.bool false, .bool s, .slice a n cap] 85) (.cells #[.pointer none, .slice none 0 0] 143)
  replace hV := hide hV
  generalize hh : w.heap.size = h at *
  have J0 : WJ w V h false s (.slice a n cap) [] := ⟨hB, g0, .inl ⟨Nat.le_refl _, .slice none 0 0, g1, World.ownsRow_nil _ _ _ _, by simp [Value.ownBlock]⟩⟩
  replace J0 := hide J0
  have HROW := hide hrow
  have HH := hide hh
  have HN := hide hn
  clear hB g0 g1 hsz0 hrow hn
  go_enter Try.func72, Try.ntmps72
  have J1 := J0
  go_wp2_with fail
  rw [unhide hV]
  go_loopw [12] (fun i wr => ∃ k : Nat, k ≤ n ∧ i = .int .i64 k ∧ WJ w wr h false s (.slice a n cap) (([] : List UInt8) ++ joinS (q.take k))) (fun i _ => n - (intOf i).toNat)
  case atStart => exact ⟨0, by omega, rfl, by simpa [joinS] using unhide J1⟩
  case round =>
    obtain ⟨k, hk, rfl, J⟩ := hrel
    by_cases hlt : k < n
    · have j0 : (0 : Int) ≤ (k : Int) := by omega
      have j1 : (k : Int) < (n : Int) := by omega
      obtain ⟨x, hx⟩ : ∃ x, q[k]? = some x := ⟨_, List.getElem?_eq_getElem (by rw [unhide HN]; exact hlt)⟩
      obtain ⟨b, off, rfl, hb, c1⟩ := unhide HROW k x hx
      have c2 : wr.cell? ⟨b, off + k, none⟩ = some (.string (bs x)) := (World.cell?_of_block (J.be.block b (by rw [← unhide HH]; exact hb))).trans c1
      have hjt := hide (join_take q k x hx)
      have hb1 : (joinS (q.take k)).length ≤ 100000000 := Nat.le_trans (join_le _) (Nat.le_trans (wt_take q k) hsz)
      have hb2 : (joinS (q.take (k + 1))).length ≤ 100000000 := Nat.le_trans (join_le _) (Nat.le_trans (wt_take q _) hsz)
      have hb3 : (joinS (q.take k)).length + ((if 0 < k then ([47] : List UInt8) else []).length + x.length) ≤ 100000000 := by
        have := hb2; rw [unhide hjt] at this; simpa using this
      clear hx c1 hb hb2
      by_cases h0 : 0 < k
      · have k0 : (0 : Int) < (k : Int) := by omega
        rw [if_pos h0] at hb3
        replace hb1 := hide hb1
        replace hb3 := hide hb3
        replace J := hide J
        clear h0
        go_wp2_with fail
        refine ((unhide J).write [47] (by have := unhide hb1; simp; omega)).mono ?_
        rintro e w1 ⟨rfl, J3⟩
        replace J3 := hide J3
        go_wp2_with fail
        refine ((unhide J3).write x (by have := unhide hb3; simp at this ⊢; omega)).mono ?_
        rintro e w2 ⟨rfl, J4⟩
        replace J4 := hide J4
        go_wp2_with fail
        refine ⟨⟨k + 1, by omega, rfl, ?_⟩, by simp [intOf]; omega⟩
        rw [unhide hjt, if_pos (by omega)]
        simpa using unhide J4
      · obtain rfl : k = 0 := by omega
        replace hb1 := hide hb1
        replace hb3 := hide hb3
        replace J := hide J
        have c3 : wr.cell? ⟨b, off, none⟩ = some (.string (bs x)) := c2
        have j2 : ¬ ((0 : Int) < ((0 : Nat) : Int)) := by omega
        clear h0 c2
        go_wp2_with fail
        refine ((unhide J).write x (by have := unhide hb3; simp at this ⊢; omega)).mono ?_
        rintro e w2 ⟨rfl, J4⟩
        replace J4 := hide J4
        go_wp2_with fail
        refine ⟨⟨1, by omega, rfl, ?_⟩, by simp [intOf]; omega⟩
        rw [unhide hjt]
        simpa using unhide J4
    · obtain rfl : k = n := by omega
      have j1 : ¬ (k : Int) < (k : Int) := by omega
      have hq : q.take k = q := List.take_of_length_le (by rw [unhide HN]; exact Nat.le_refl _)
      rw [hq] at J
      clear hq
      have hb1 : (joinS q).length ≤ 100000000 := Nat.le_trans (join_le _) hsz
      obtain ⟨e0, e1, e2⟩ := J.cells
      replace J := hide J
      by_cases h0 : 0 < k
      · have k0 : (0 : Int) < (k : Int) := by omega
        have hne : q.isEmpty = false := by
          cases q with
          | nil => have := unhide HN; simp at this; omega
          | cons _ _ => rfl
        cases s with
        | true =>
          have hw : Hid (pw false true q = ([] : List UInt8) ++ joinS q ++ [47]) := hide (by simp [pw, hne])
          replace hb1 := hide hb1
          clear h0 hne
          go_wp2_with fail
          refine ((unhide J).write [47] (by have := unhide hb1; simp; omega)).mono ?_
          rintro e w1 ⟨rfl, J3⟩
          replace J3 := hide J3
          go_wp2_with fail
          refine ((unhide J3).done).mono ?_
          rintro e w1 ⟨rfl, B3⟩
          replace B3 := hide B3
          go_wp2_with fail
          go_ret
          exact ⟨by rw [unhide hw]; rfl, unhide B3⟩
        | false =>
          have hw : Hid (pw false false q = ([] : List UInt8) ++ joinS q) := hide (by simp [pw])
          clear h0 hne
          go_wp2_with fail
          refine ((unhide J).done).mono ?_
          rintro e w1 ⟨rfl, B3⟩
          replace B3 := hide B3
          go_wp2_with fail
          go_ret
          exact ⟨by rw [unhide hw]; rfl, unhide B3⟩
      · obtain rfl : k = 0 := by omega
        have hq0 : q = [] := List.length_eq_zero_iff.1 (unhide HN)
        have k0 : ¬ ((0 : Int) < ((0 : Nat) : Int)) := by omega
        have hw : Hid (pw false s q = ([] : List UInt8) ++ joinS q) := hide (by simp [pw, hq0])
        clear h0 hq0
        cases s with
        | true =>
          go_wp2_with fail
          refine ((unhide J).done).mono ?_
          rintro e w1 ⟨rfl, B3⟩
          replace B3 := hide B3
          go_wp2_with fail
          go_ret
          exact ⟨by rw [unhide hw]; rfl, unhide B3⟩
        | false =>
          go_wp2_with fail
          refine ((unhide J).done).mono ?_
          rintro e w1 ⟨rfl, B3⟩
          replace B3 := hide B3
          go_wp2_with fail
          go_ret
          exact ⟨by rw [unhide hw]; rfl, unhide B3⟩
theorem wr_any (r s : Bool) (q : List (List UInt8)) (n : Nat) (hn : q.length = n) (a : Option Addr) (cap : Nat) (w : World) (hrow : RowO w a q) (hsz : wt q ≤ 100000000) :
    Calls Try.prog 72 #[.agg #[.bool r, .bool s, .slice a n cap]] w fun e w' => e = .returned (S (pw r s q)) ∧ Below w.heap.size w w' := by
  have h2 : ∀ q : List (List UInt8), q.length ≤ wt q := by
    intro q
    induction q with
    | nil => simp
    | cons p r ih => simp [wt]; omega
  have := h2 q
  cases r
  · exact wr_bare s q n hn (by omega) a cap w hrow hsz
  · exact wr_root s q n hn (by omega) a cap w hrow hsz
end Go.Proofs.Ythmdipfdloennaa.Nm

/-
  The contract of the iterator that parts answers: what stands between slashes is handed to the loop one behind the other, until a round leaves.
-/
namespace Go.Proofs.Ythmdipfdloennaa.Nm
open Go.RowKit Go.Shelf
attribute [local go_sem] Oper.semAt_some

def strLen : Value → Nat
  | .string s => s.size
  | _ => 0
theorem strLen_S (l : List UInt8) : strLen (S l) = l.length := by simp [strLen, ByteArray.size]

set_option maxRecDepth 100000 in
set_option maxHeartbeats 1000000 in
theorem iter_go (y x : Nat) (l0 : List UInt8) (W : World) (J : List UInt8 → World → Prop) (E : World → Prop) (hl0 : l0.length ≤ 9223372036854775807) (hJ0 : J l0 W) (hx : W.cell? ⟨x, 0, none⟩ = some (S l0))
    (hD : ∀ r W' n, J r W' → J r (W'.drewN n)) (hS : ∀ r W', J r W' → before r = [] → J (behind r) W')
    (hY : ∀ r W', J r W' → r.length ≤ l0.length → before r ≠ [] → YieldAt Fence.wide (3 - 1) Try.prog y #[S (before r)] W' fun e W2 => (e = .returned (.bool true) ∧ J (behind r) W2) ∨ (e = .returned (.bool false) ∧ E W2)) :
    CallsIn Fence.wide 3 Try.prog 64 #[.func (.yield y) #[] #[], .pointer (some ⟨x, 0, none⟩)] W fun e W' => e = .returned (.tuple #[]) ∧ (J [] W' ∨ E W') := by
  have hro : Fence.wide.round = none := rfl
  have HY := hide hY
  have HD := hide hD
  have HS := hide hS
  clear hY hD hS
  refine callsIn_of_wp Try.func64 rfl trivial ?_ hro
  simp only [Try.ntmps64, List.size_toArray, List.length_cons, List.length_nil, Nat.reduceAdd, Nat.reduceSub, Array.replicate_succ, Array.replicate_zero, List.push_toArray, List.append_toArray, List.nil_append, List.cons_append]
  gi_wp2_with fail
  clear hx
  gi_loopw [3] (fun i wr => ∃ r : List UInt8, r.length ≤ l0.length ∧ i = S r ∧ J r wr) (fun i _ => strLen i)
  case atStart => exact ⟨l0, Nat.le_refl _, rfl, hJ0⟩
  case round =>
    obtain ⟨r, hr, rfl, hJ⟩ := hrel
    by_cases h0 : r = []
    · subst h0
      gi_wp2_with fail
      go_end0
      exact ⟨rfl, .inl hJ⟩
    · have h1 : r.isEmpty = false := by simpa using h0
      have hlt := hide (behind_lt h0)
      by_cases hb : before r = []
      · have HJ := hide (unhide HS r wr hJ hb)
        clear hJ
        gi_wp2_with fail
        refine ⟨trivial, (callsIn_wide.2 (cut_any r _ (by omega))).mono ?_⟩
        rintro e w' ⟨⟨f, rfl⟩, n, rfl⟩
        rw [hb]
        gi_wp2_with fail
        rename_i K2 hK2 x2 h2 w2 q2
        refine ⟨(fun _ _ => trivial), hK2 _ _ ?_⟩
        clear q2 x2 h2 w2
        gi_wp2_with fail
        go_roundw
        case rel => exact ⟨behind r, Nat.le_trans (behind_le r) hr, rfl, unhide HD _ _ _ (unhide HJ)⟩
        case measure => have := unhide hlt; simp [strLen_S]; omega
      · have hbe : (before r).isEmpty = false := by simpa using hb
        have hY := hide fun n => unhide HY r (wr.drewN n) (unhide HD _ _ _ hJ) hr hb
        clear hJ
        gi_wp2_with fail
        refine ⟨trivial, (callsIn_wide.2 (cut_any r _ (by omega))).mono ?_⟩
        rintro e w' ⟨⟨f, rfl⟩, n, rfl⟩
        obtain ⟨fn, tmps, assign, body, hyy, hR⟩ := unhide hY n
        gi_wp2_with fail
        refine hR.mono ?_
        rintro e W2 (⟨rfl, hJ2⟩ | ⟨rfl, hE⟩)
        · gi_wp2_with fail
          go_roundw
          case rel => exact ⟨behind r, Nat.le_trans (behind_le r) hr, rfl, hJ2⟩
          case measure => have := unhide hlt; simp [strLen_S]; omega
        · gi_wp2_with fail
          refine bodyPost_ret (results_none rfl _ _ _) rfl ?_
          exact ⟨rfl, .inr hE⟩
end Go.Proofs.Ythmdipfdloennaa.Nm
