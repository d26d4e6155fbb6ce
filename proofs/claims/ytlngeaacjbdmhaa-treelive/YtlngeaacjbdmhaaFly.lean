/-
  A loop over the entries, in flight: its record, the block for deferred calls, the box of the iterator; regions that draw their order, in a round.
-/
import Derived.Test.YtlngeaacjbdmhaaGetB
import Derived.Test.YtlngeaacjbdmhaaRange
import Derived.Shelf.Abstract
import Derived.Shelf.RegionOpen
import Derived.OwnWalkIn
import Derived.TacticsInMore
import Derived.LoopNIn
import Derived.LoopIn
namespace Go.Proofs.Ytlngeaacjbdmhaa
open Go.RowKit Go.Shelf
theorem putAll {w : World} (o : Obj) (h : Nat) (hh : h = w.heap.size) : (w.alloc o).heap[h]? = some o := by
  subst hh; exact heap_alloc_new w o

section
variable {n l : Nat} {P : Program} {ops : Array Oper} {Q : Exit → Act → World → Prop} {md : Region.Mode}
def noDefer (o : Oper) : Bool := match o.op with | .defer _ => false | _ => true
theorem noDefer_spec {o : Oper} (h : noDefer o = true) : ∀ c, o.op ≠ .defer c := by
  intro c hc
  simp [noDefer, hc] at h
theorem uponIn_round {o : Oper} {a : Act} {K : Act → World → Prop} {r : Result Next} (h : o.uponIn Fence.wide n P a K Q r) : o.uponIn (Fence.wide.inRound l) n P a K Q r := by
  cases r with
  | ok x w' => cases x <;> exact h
  | halt x w' => cases x <;> exact h
theorem wpOpIn_round {i : Nat} {K : Act → World → Prop} {a : Act} {w : World} (hd : ops.all noDefer = true) (h : wpOpIn Fence.wide n P ops Q i K a w) : wpOpIn (Fence.wide.inRound l) n P ops Q i K a w := by
  unfold wpOpIn at *
  cases ho : ops[i]? with
  | none => simpa [ho] using h
  | some o =>
    simp only [ho] at h ⊢
    have hn : ∀ c, o.op ≠ .defer c := noDefer_spec (by
      obtain ⟨hl, he⟩ := Array.getElem?_eq_some_iff.1 ho
      rw [Array.all_eq_true] at hd
      rw [← he]; exact hd i hl)
    split
    · rename_i hw
      simp only [hw, if_true] at h
      refine ⟨fun _ _ => trivial, ?_⟩
      have h2 := h.2
      rw [show (Fence.wide.inRound l).round = some l from rfl, Oper.semAt_some _ _ _ hn]
      rw [show Fence.wide.round = none from rfl, Oper.semAt_none] at h2
      exact uponIn_round h2
    · rename_i hw
      simp only [hw] at h
      exact h
theorem wpAnyIn_round (hd : ops.all noDefer = true) : ∀ (fuel : Nat) (listed : Array Bool) (a : Act) (w : World), wpAnyIn Fence.wide n P md ops Q fuel listed a w → wpAnyIn (Fence.wide.inRound l) n P md ops Q fuel listed a w
  | 0, _, _, _, h => h
  | fuel + 1, _, _, _, h => ⟨h.1, fun i hi => wpOpIn_mono (fun a w hh => wpAnyIn_round hd fuel _ a w hh) (wpOpIn_round hd (h.2 i hi))⟩
theorem wpIn_region_round {id : Nat} {a : Act} {w : World} (hm : P.follows .mixedOrders = true) (hd : ops.all noDefer = true)
    (h : wpAnyIn Fence.wide n P .any ops Q ops.size (Array.replicate ops.size false) a w.drew) : (Code.region id ops true).wpIn (Fence.wide.inRound l) n P Q a w :=
  wpIn_region_any hm (wpAnyIn_round hd _ _ _ _ h)

theorem stepIn_append_eq {w : World} {o : Oper} {a : Act} {K : Act → World → Prop} {E : Prop} (hgd : o.guard = none) (s x : Operand) (t : TypeId)
    (ho : o.op = .call { callee := .builtin .append, args := #[s, x], argTypes := #[t, t] }) (ty : TypeId) (hty : o.type = ty) (vs vx : Value) (hs : a.eval s = vs) (hx : a.eval x = vx) (v' : Value) (w' : World)
    (hrun : (Builtin.append_ #[t, t] ty #[vs, vx]).run P w = .ok v' w') (h : K (a.put o.dst v') w') :
    if Region.wanted o (yielded ops a.tmps) = true then Oper.wpIn Fence.wide n P o a w K Q else E := by
  have hw : Region.wanted o (yielded ops a.tmps) = true := by simp [Region.wanted, hgd]
  rw [if_pos hw]
  refine ⟨fun _ _ => trivial, ?_⟩
  rw [show Fence.wide.round = none from rfl, Oper.semAt_none]
  unfold execOp
  simp only [ho, resolve, invoke, builtin, Sem.run_bind, Sem.run_pure, Result.andThen_ok, List.map_toArray, List.map_cons, List.map_nil, hs, hx, hty, hrun]
  exact h
end
theorem grown_keep {W W5 : World} {base : Nat} {e : TypeId} {s n k : Nat} {v : Value} {xs : List Value} {o o' : Obj} (own : W.ownsRow base e s v n xs) (hg : (W.alloc o').grownBy W5 v.ownBlock) (h : W.heap[k]? = some o) (hne : ∀ cur, o ≠ .cells cur e (0, 0)) : W5.heap[k]? = some o := by
  have h3 := hg.block k (by simp; exact Nat.lt_succ_of_lt (lt_of_heap h)) (own_ne own h hne)
  rw [Below.heap_alloc _ _ _ (lt_of_heap h)] at h3
  exact h3.trans h

/-- A loop over what waits, in flight: its record, the block for deferred calls, the box of the iterator; what lay ahead of the call lies as it lay. -/
structure Fy (w W : World) (r : Loop) (h L D x b : Nat) : Prop where
  l : W.heap[L]? = some (.loop r)
  dd : W.heap[D]? = some (.deferred (some []))
  xx : W.heap[x]? = some (.cells #[.pointer (some ⟨b, 0, none⟩)] 62)
  be : Below h w W
theorem Fy.of {w W W' : World} {r r' : Loop} {h L D x b : Nat} (J : Fy w W r h L D x b) (hl : W'.heap[L]? = some (.loop r')) (hb : Below h w W') (hk : ∀ k, k < W.heap.size → k ≠ L → W'.heap[k]? = W.heap[k]?) : Fy w W' r' h L D x b := by
  have kp : ∀ {k : Nat} {o : Obj}, W.heap[k]? = some o → o ≠ .loop r → W'.heap[k]? = some o := fun h1 h2 => (hk _ (lt_of_heap h1) (by rintro rfl; rw [J.l] at h1; exact h2 (Option.some.inj h1).symm)).trans h1
  exact ⟨hl, kp J.dd (by simp), kp J.xx (by simp), hb⟩
theorem put_other {W : World} {r r' : Loop} {L k : Nat} {o : Obj} (hl : W.heap[L]? = some (.loop r)) (h : W.heap[k]? = some o) (hne : ∀ r, o ≠ .loop r) : (W.putObj L (.loop r')).heap[k]? = some o :=
  (World.putObj_heap_other (by rintro rfl; rw [hl] at h; exact hne _ (Option.some.inj h).symm)).trans h
theorem Fy.put {w W : World} {r : Loop} {h L D x b : Nat} (J : Fy w W r h L D x b) (r' : Loop) (hL : h ≤ L) : Fy w (W.putObj L (.loop r')) r' h L D x b :=
  J.of (World.putObj_heap_same (lt_of_heap J.l)) ⟨J.be.os, J.be.tape, J.be.output, by rw [World.putObj_size]; exact J.be.size, fun k hk => (World.putObj_heap_other (by omega)).trans (J.be.block k hk)⟩ (fun _ _ hk => World.putObj_heap_other hk)
theorem own_put {W : World} {r r' : Loop} {L base : Nat} {e : TypeId} {s n : Nat} {v : Value} {xs : List Value} (h : W.ownsRow base e s v n xs) (hl : W.heap[L]? = some (.loop r)) : (W.putObj L (.loop r')).ownsRow base e s v n xs :=
  own_keep h fun k cur hc => (put_other hl hc (by simp)).trans hc.symm

/-- One number more in a box's row. -/
theorem box_more {w W : World} {r : Loop} {h L D x b H : Nat} {v : Value} {xs : List Value} {o' : Obj} {t : TypeId} {e : TypeId} {s : Nat} {n : Nat} {news : List Value} {v' : Value} {W5 : World} (J : Fy w W r h L D x b) (k1 : W.heap[H]? = some (.cells #[v] t)) (own : W.ownsRow h e s v n xs)
    (hg : (W.alloc o').grownBy W5 v.ownBlock) (own' : W5.ownsRow h e s v' (n + 1) (xs ++ news)) (hH : h ≤ H) (ht : t ≠ e) (hx : (62 : TypeId) ≠ e) (ht2 : t ≠ 62) :
    Fy w (W5.setCell ⟨H, 0, none⟩ v') r h L D x b ∧ W5.heap[H]? = some (.cells #[v] t) ∧ (W5.setCell ⟨H, 0, none⟩ v').heap[H]? = some (.cells #[v'] t) ∧ (W5.setCell ⟨H, 0, none⟩ v').ownsRow h e s v' (n + 1) (xs ++ news) := by
  have hs := J.be.size
  have H5 := grown_keep own hg k1 (by intro cur hc; simp at hc; exact ht hc.2)
  have kp : ∀ {k : Nat} {o : Obj}, W.heap[k]? = some o → (∀ cur, o ≠ .cells cur e (0, 0)) → k ≠ H → (W5.setCell ⟨H, 0, none⟩ v').heap[k]? = some o :=
    fun h1 h2 h3 => (Below.heap_setCell _ _ _ _ h3).trans (grown_keep own hg h1 h2)
  have ne : ∀ {k : Nat} {o : Obj}, W.heap[k]? = some o → (∀ cur, o ≠ .cells cur t (0, 0)) → k ≠ H := by
    rintro k o h1 h2 rfl
    rw [k1] at h1
    exact h2 _ (Option.some.inj h1).symm
  have hhW : h ≤ W.heap.size := by have := lt_of_heap k1; omega
  have own1 : (W.alloc o').ownsRow h e s v n xs := own_keep own fun k cur hc => Below.heap_alloc _ _ _ (lt_of_heap hc)
  have hbe : Below h w W5 := below_grown (J.be.alloc hhW _) own1 hg (by simp; omega)
  refine ⟨⟨kp J.l (by simp) (ne J.l (by simp)), kp J.dd (by simp) (ne J.dd (by simp)), kp J.xx (by intro cur hc; simp at hc; exact hx hc.2) (ne J.xx (by intro cur hc; simp at hc; exact ht2 hc.2.symm)), hbe.setCell (p := ⟨H, 0, none⟩) hH _⟩, H5, ?_, ?_⟩
  · rw [heap_set H5]; simp
  · refine own_keep own' fun k cur hc => Below.heap_setCell _ _ _ _ ?_
    rintro rfl
    rw [H5] at hc
    simp at hc
    exact ht hc.2
theorem setup (w : World) (r : Loop) : ((w.alloc (.deferred (some []))).alloc (.loop r)).heap[w.heap.size + 1]? = some (.loop r) ∧ ((w.alloc (.deferred (some []))).alloc (.loop r)).heap[w.heap.size]? = some (.deferred (some [])) ∧ Below w.heap.size w ((w.alloc (.deferred (some []))).alloc (.loop r)) :=
  ⟨putAll _ _ (by simp), (Below.heap_alloc _ _ _ (by simp)).trans (putAll _ _ rfl), ((Below.refl _ _).alloc (Nat.le_refl _) _).alloc (by simp) _⟩

theorem two0 (w : World) (o1 o2 : Obj) : ∃ V : World, ((w.alloc o1).alloc o2) = V ∧ V.heap.size = w.heap.size + 2 ∧ V.heap[w.heap.size]? = some o1 ∧ V.heap[w.heap.size + 1]? = some o2 ∧ Below w.heap.size w V := by
  refine ⟨_, rfl, by simp, ?_, ?_, ?_⟩
  · rw [Below.heap_alloc _ _ _ (by simp)]; exact putAll _ _ rfl
  · exact putAll _ _ (by simp)
  · exact ((Below.refl w.heap.size w).alloc (Nat.le_refl _) o1).alloc (by simp) o2
theorem four0 (w : World) (o1 o2 o3 o4 : Obj) : ∃ V : World, (((w.alloc o1).alloc o2).alloc o3).alloc o4 = V ∧ V.heap.size = w.heap.size + 4 ∧ V.heap[w.heap.size]? = some o1 ∧ V.heap[w.heap.size + 1]? = some o2 ∧ V.heap[w.heap.size + 2]? = some o3 ∧ V.heap[w.heap.size + 3]? = some o4 ∧ Below w.heap.size w V := by
  obtain ⟨V, hV, hs, g0, g1, hB⟩ := two0 w o1 o2
  obtain ⟨V2, hV2, hs2, g2, g3, hB2⟩ := two0 V o3 o4
  rw [hV, hV2]
  rw [hs] at g2 g3 hs2
  exact ⟨V2, rfl, hs2, (hB2.block _ (by omega)).trans g0, (hB2.block _ (by omega)).trans g1, g2, g3, hB.trans (hB2.mono (by omega))⟩
theorem three0 (w : World) (o1 o2 o3 : Obj) : ∃ V : World, ((w.alloc o1).alloc o2).alloc o3 = V ∧ V.heap.size = w.heap.size + 3 ∧ V.heap[w.heap.size]? = some o1 ∧ V.heap[w.heap.size + 1]? = some o2 ∧ V.heap[w.heap.size + 2]? = some o3 ∧ Below w.heap.size w V := by
  obtain ⟨V, hV, hs, g0, g1, hB⟩ := two0 w o1 o2
  rw [hV]
  refine ⟨_, rfl, by simp [hs], (Below.heap_alloc _ _ _ (by omega)).trans g0, (Below.heap_alloc _ _ _ (by omega)).trans g1, putAll _ _ hs.symm, hB.alloc (by omega) o3⟩
end Go.Proofs.Ytlngeaacjbdmhaa
