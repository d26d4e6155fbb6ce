/-
  Two laws of the walk for a range over a function whose iterator may write memory that lay: the statement, out of the iterator's own contract at the loop's record; and one call of yield, out of the round's walk.
-/
import Derived.RangeFuncNested
import Derived.RangeFuncBound
import Derived.RangeFuncCalls
import Derived.RangeFuncLeaves
import Derived.WalkKit
import Derived.Test.YthmdipfdloennaaLp09
import Derived.Shelf.Abstract
import Derived.Shelf.RegionOpen
import Derived.OwnWalkIn
import Derived.TacticsInMore
import Derived.LoopNIn
import Derived.LoopIn
namespace Go.Proofs.Ythmdipfdloennaa
open Go.RowKit

/-- The statement: the loop's record r lies at w.heap.size + 1, the block for deferred calls ahead of it. -/
theorem wpIn_range_own {F : Fence} {n : Nat} {P : Program} {g : Operand} {ps : Array Tmp} {assign body : Code} {Q : Exit → Act → World → Prop} {a : Act} {w : World}
    (hro : F.round = none) (h1 : 1 ≤ n) {gf : Nat} {lb : Array Value} (hg : a.eval g = .func (.func gf) #[] lb) (hFg : F.fn gf) (eg : ∀ args w, (callFunc gf args).run P w = .ok (.enter gf args) w)
    (h : ∀ r : Loop, F.fn r.fn → r.state = .ready → r.pending = none → r.tmps = a.tmps → r.params = ps → r.assign = assign → r.body = body →
      CallsIn F (n - 1) P gf (#[.func (.yield (w.heap.size + 1)) #[] #[]] ++ lb) ((w.alloc (.deferred (some []))).alloc (.loop r))
        fun e W2 => (∃ v, e = .returned v) ∧ W2.heap[w.heap.size + 1]? = some (.loop r) ∧
          Q .normal { a with defers := { target := .collected w.heap.size, args := #[] } :: a.defers } (W2.putObj (w.heap.size + 1) (.loop { r with state := .exhausted }))) :
    (Code.rangeFunc g ps assign body).wpIn F n P Q a w := by
  refine wpIn_rangeFunc ?_
  intro fn hfn
  rw [hro]
  obtain ⟨r, hr⟩ : ∃ r : Loop, r = { state := .ready, pending := none, fn, tmps := a.tmps, params := ps, assign, body, defers := w.heap.size } := ⟨_, rfl⟩
  refine ⟨w.heap.size + 1, [{ target := .collected w.heap.size, args := #[] }], (w.alloc (.deferred (some []))).alloc (.loop r), { target := .fn (.func gf) lb, args := #[.func (.yield (w.heap.size + 1)) #[] #[]] },
    (w.alloc (.deferred (some []))).alloc (.loop r), gf, #[.func (.yield (w.heap.size + 1)) #[] #[]] ++ lb, (w.alloc (.deferred (some []))).alloc (.loop r), ?_, ?_, ?_, ?_, fun _ => h1, ?_⟩
  · rw [hr]; exact run_enterLoop_outer _ _ _ _ _
  · simp only [resolve, hg]
    simp [go_sem]
  · intro f' hf'; simp [Target.leads] at hf'; subst hf'; exact hFg
  · simp [invoke, go_sem, eg]
  · refine (h r (by rw [hr]; exact hfn) (by rw [hr]) (by rw [hr]) (by rw [hr]) (by rw [hr]) (by rw [hr]) (by rw [hr])).mono ?_
    rintro e W2 ⟨⟨v, rfl⟩, hl, hq⟩
    have hp : r.pending = none := by rw [hr]
    have he := run_endLoop (P := P) hl (by rw [hr]; simp)
    exact ⟨r.pending, _, he, by rw [hp]; rw [hp] at hq; exact hq⟩

/-- One call of yield: the assignments, then the body, which goes on. -/
theorem yield_own {F : Fence} {n : Nat} {P : Program} {l : Nat} {r : Loop} {args : Array Value} {W : World} {R : Ending → World → Prop} {tm : Array Value} {ps : Array Tmp} {assign body : Code}
    (hF : F.fn r.fn) (hst : r.state = .ready) (hpe : r.pending = none) (htm : r.tmps = tm) (hps : r.params = ps) (has : r.assign = assign) (hbo : r.body = body) (hs : args.size = ps.size) (hl : W.heap[l]? = some (.loop r))
    (h : ∀ rb : Loop, assign.wpIn (F.inRound l) n P (Exit.then (fun a₁ w₁ => w₁.heap[l]? = some (.loop r) ∧
      body.wpIn (F.inRound l) n P (fun e _ w => e = .normal ∧ w.heap[l]? = some (.loop rb) ∧ R (.returned (.bool true)) (w.putObj l (.loop r))) a₁ (w₁.putObj l (.loop rb))) (fun _ _ _ => False))
      { tmps := (ps.zip args).foldl (fun tmps (t, a) => tmps.setIfInBounds t a) tm, defers := [] } W) :
    YieldAt F n P l args W R := by
  subst htm hps has hbo
  refine ⟨r.fn, _, r.assign, r.body, run_yield (P := P) hl hs, roundIn_of_wpIn hF (wpIn_mono (h { r with state := .busy }) ?_)⟩
  intro e a₁ w₁ hq
  cases e with
  | normal =>
    obtain ⟨hl1, hb⟩ := hq
    refine ⟨_, run_beginRound hl1 hst, wpIn_mono hb ?_⟩
    rintro e a w ⟨rfl, hl2, hR⟩
    have he := run_endRound (P := P) none hl2
    refine ⟨_, _, he, ?_⟩
    have hrr : ({ state := LoopState.ready, pending := none, fn := r.fn, tmps := r.tmps, params := r.params, assign := r.assign, body := r.body, defers := r.defers } : Loop) = r := by
      cases r; simp at hst hpe; subst hst hpe; rfl
    simpa [hrr] using hR
  | ret => exact hq.elim
  | exit id => exact hq.elim
  | goto t => exact hq.elim
  | panic c => exact hq.elim
  | outgrown => exact hq.elim


/-- The statement where a round may return: the record is then done, the return pending. -/
theorem wpIn_range_ret {F : Fence} {n : Nat} {P : Program} {g : Operand} {ps : Array Tmp} {assign body : Code} {Q : Exit → Act → World → Prop} {a : Act} {w : World}
    (hro : F.round = none) (h1 : 1 ≤ n) {gf : Nat} {lb : Array Value} (hg : a.eval g = .func (.func gf) #[] lb) (hFg : F.fn gf) (eg : ∀ args w, (callFunc gf args).run P w = .ok (.enter gf args) w)
    (h : ∀ r : Loop, F.fn r.fn → r.state = .ready → r.pending = none → r.tmps = a.tmps → r.params = ps → r.assign = assign → r.body = body →
      CallsIn F (n - 1) P gf (#[.func (.yield (w.heap.size + 1)) #[] #[]] ++ lb) ((w.alloc (.deferred (some []))).alloc (.loop r))
        fun e W2 => (∃ v, e = .returned v) ∧ ((W2.heap[w.heap.size + 1]? = some (.loop r) ∧
          Q .normal { a with defers := { target := .collected w.heap.size, args := #[] } :: a.defers } (W2.putObj (w.heap.size + 1) (.loop { r with state := .exhausted }))) ∨
          ∃ rd : Loop, rd.state = .done ∧ rd.pending = some .ret ∧ W2.heap[w.heap.size + 1]? = some (.loop rd) ∧
          Q .ret { a with defers := { target := .collected w.heap.size, args := #[] } :: a.defers } (W2.putObj (w.heap.size + 1) (.loop { rd with state := .exhausted })))) :
    (Code.rangeFunc g ps assign body).wpIn F n P Q a w := by
  refine wpIn_rangeFunc ?_
  intro fn hfn
  rw [hro]
  obtain ⟨r, hr⟩ : ∃ r : Loop, r = { state := .ready, pending := none, fn, tmps := a.tmps, params := ps, assign, body, defers := w.heap.size } := ⟨_, rfl⟩
  refine ⟨w.heap.size + 1, [{ target := .collected w.heap.size, args := #[] }], (w.alloc (.deferred (some []))).alloc (.loop r), { target := .fn (.func gf) lb, args := #[.func (.yield (w.heap.size + 1)) #[] #[]] },
    (w.alloc (.deferred (some []))).alloc (.loop r), gf, #[.func (.yield (w.heap.size + 1)) #[] #[]] ++ lb, (w.alloc (.deferred (some []))).alloc (.loop r), ?_, ?_, ?_, ?_, fun _ => h1, ?_⟩
  · rw [hr]; exact run_enterLoop_outer _ _ _ _ _
  · simp only [resolve, hg]
    simp [go_sem]
  · intro f' hf'; simp [Target.leads] at hf'; subst hf'; exact hFg
  · simp [invoke, go_sem, eg]
  · refine (h r (by rw [hr]; exact hfn) (by rw [hr]) (by rw [hr]) (by rw [hr]) (by rw [hr]) (by rw [hr]) (by rw [hr])).mono ?_
    rintro e W2 ⟨⟨v, rfl⟩, ⟨hl, hq⟩ | ⟨rd, hd1, hd2, hl, hq⟩⟩
    · have hp : r.pending = none := by rw [hr]
      have he := run_endLoop (P := P) hl (by rw [hr]; simp)
      exact ⟨r.pending, _, he, by rw [hp]; rw [hp] at hq; exact hq⟩
    · have he := run_endLoop (P := P) hl (by rw [hd1]; simp)
      refine ⟨rd.pending, _, he, ?_⟩
      rw [hd2] at hq ⊢
      exact wpIn_ret hq

/-- One call of yield whose body goes on, or returns. -/
theorem yield_ret {F : Fence} {n : Nat} {P : Program} {l : Nat} {r : Loop} {args : Array Value} {W : World} {R : Ending → World → Prop} {tm : Array Value} {ps : Array Tmp} {assign body : Code}
    (hF : F.fn r.fn) (hst : r.state = .ready) (hpe : r.pending = none) (htm : r.tmps = tm) (hps : r.params = ps) (has : r.assign = assign) (hbo : r.body = body) (hs : args.size = ps.size) (hl : W.heap[l]? = some (.loop r))
    (h : ∀ rb : Loop, assign.wpIn (F.inRound l) n P (Exit.then (fun a₁ w₁ => w₁.heap[l]? = some (.loop r) ∧
      body.wpIn (F.inRound l) n P (fun e _ w => w.heap[l]? = some (.loop rb) ∧ ((e = .normal ∧ R (.returned (.bool true)) (w.putObj l (.loop r))) ∨ (e = .ret ∧ R (.returned (.bool false)) (w.putObj l (.loop { rb with state := .done, pending := some .ret }))))) a₁ (w₁.putObj l (.loop rb))) (fun _ _ _ => False))
      { tmps := (ps.zip args).foldl (fun tmps (t, a) => tmps.setIfInBounds t a) tm, defers := [] } W) :
    YieldAt F n P l args W R := by
  subst htm hps has hbo
  refine ⟨r.fn, _, r.assign, r.body, run_yield (P := P) hl hs, roundIn_of_wpIn hF (wpIn_mono (h { r with state := .busy }) ?_)⟩
  intro e a₁ w₁ hq
  cases e with
  | normal =>
    obtain ⟨hl1, hb⟩ := hq
    refine ⟨_, run_beginRound hl1 hst, wpIn_mono hb ?_⟩
    rintro e a w ⟨hl2, ⟨rfl, hR⟩ | ⟨rfl, hR⟩⟩
    · have he := run_endRound (P := P) none hl2
      refine ⟨_, _, he, ?_⟩
      have hrr : ({ state := LoopState.ready, pending := none, fn := r.fn, tmps := r.tmps, params := r.params, assign := r.assign, body := r.body, defers := r.defers } : Loop) = r := by
        cases r; simp at hst hpe; subst hst hpe; rfl
      simpa [hrr] using hR
    · have he := run_endRound (P := P) (some .ret) hl2
      refine ⟨_, _, he, ?_⟩
      simpa using hR
  | ret => exact hq.elim
  | exit id => exact hq.elim
  | goto t => exact hq.elim
  | panic c => exact hq.elim
  | outgrown => exact hq.elim

end Go.Proofs.Ythmdipfdloennaa

/-
  A loop over the entries, in flight: its record, the block for deferred calls, the box of the iterator; regions that draw their order, in a round.
-/
namespace Go.Proofs.Ythmdipfdloennaa
open Go.RowKit Go.Shelf
theorem putAll {w : World} (o : Obj) (h : Nat) (hh : h = w.heap.size) : (w.alloc o).heap[h]? = some o := by
  subst hh; exact heap_alloc_new w o

section
variable {n l : Nat} {P : Program} {ops : Array Oper} {Q : Exit → Act → World → Prop} {md : Region.Mode}
def noDefer (o : Oper) : Bool := match o.op with | .defer _ => false | _ => true
theorem noDefer_spec {o : Oper} (h : noDefer o = true) : ∀ c, o.op ≠ .defer c := by
  intro c hc
  simp [noDefer, hc] at h
theorem uponIn_round {o : Oper} {a : Act} {K : Act → World → Prop} {r : Result Next} (h : o.uponIn Fence.wide n P a K Q r) : o.uponIn (Fence.wide.inRound l) n P a K Q r := by
  cases r with
  | ok x w' => cases x <;> exact h
  | halt x w' => cases x <;> exact h
theorem wpOpIn_round {i : Nat} {K : Act → World → Prop} {a : Act} {w : World} (hd : ops.all noDefer = true) (h : wpOpIn Fence.wide n P ops Q i K a w) : wpOpIn (Fence.wide.inRound l) n P ops Q i K a w := by
  unfold wpOpIn at *
  cases ho : ops[i]? with
  | none => simpa [ho] using h
  | some o =>
    simp only [ho] at h ⊢
    have hn : ∀ c, o.op ≠ .defer c := noDefer_spec (by
      obtain ⟨hl, he⟩ := Array.getElem?_eq_some_iff.1 ho
      rw [Array.all_eq_true] at hd
      rw [← he]; exact hd i hl)
    split
    · rename_i hw
      simp only [hw, if_true] at h
      refine ⟨fun _ _ => trivial, ?_⟩
      have h2 := h.2
      rw [show (Fence.wide.inRound l).round = some l from rfl, Oper.semAt_some _ _ _ hn]
      rw [show Fence.wide.round = none from rfl, Oper.semAt_none] at h2
      exact uponIn_round h2
    · rename_i hw
      simp only [hw] at h
      exact h
theorem wpAnyIn_round (hd : ops.all noDefer = true) : ∀ (fuel : Nat) (listed : Array Bool) (a : Act) (w : World), wpAnyIn Fence.wide n P md ops Q fuel listed a w → wpAnyIn (Fence.wide.inRound l) n P md ops Q fuel listed a w
  | 0, _, _, _, h => h
  | fuel + 1, _, _, _, h => ⟨h.1, fun i hi => wpOpIn_mono (fun a w hh => wpAnyIn_round hd fuel _ a w hh) (wpOpIn_round hd (h.2 i hi))⟩
theorem wpIn_region_round {id : Nat} {a : Act} {w : World} (hm : P.follows .mixedOrders = true) (hd : ops.all noDefer = true)
    (h : wpAnyIn Fence.wide n P .any ops Q ops.size (Array.replicate ops.size false) a w.drew) : (Code.region id ops true).wpIn (Fence.wide.inRound l) n P Q a w :=
  wpIn_region_any hm (wpAnyIn_round hd _ _ _ _ h)

theorem stepIn_append_eq {w : World} {o : Oper} {a : Act} {K : Act → World → Prop} {E : Prop} (hgd : o.guard = none) (s x : Operand) (t : TypeId)
    (ho : o.op = .call { callee := .builtin .append, args := #[s, x], argTypes := #[t, t] }) (ty : TypeId) (hty : o.type = ty) (vs vx : Value) (hs : a.eval s = vs) (hx : a.eval x = vx) (v' : Value) (w' : World)
    (hrun : (Builtin.append_ #[t, t] ty #[vs, vx]).run P w = .ok v' w') (h : K (a.put o.dst v') w') :
    if Region.wanted o (yielded ops a.tmps) = true then Oper.wpIn Fence.wide n P o a w K Q else E := by
  have hw : Region.wanted o (yielded ops a.tmps) = true := by simp [Region.wanted, hgd]
  rw [if_pos hw]
  refine ⟨fun _ _ => trivial, ?_⟩
  rw [show Fence.wide.round = none from rfl, Oper.semAt_none]
  unfold execOp
  simp only [ho, resolve, invoke, builtin, Sem.run_bind, Sem.run_pure, Result.andThen_ok, List.map_toArray, List.map_cons, List.map_nil, hs, hx, hty, hrun]
  exact h
end
theorem grown_keep {W W5 : World} {base : Nat} {e : TypeId} {s n k : Nat} {v : Value} {xs : List Value} {o o' : Obj} (own : W.ownsRow base e s v n xs) (hg : (W.alloc o').grownBy W5 v.ownBlock) (h : W.heap[k]? = some o) (hne : ∀ cur, o ≠ .cells cur e (0, 0)) : W5.heap[k]? = some o := by
  have h3 := hg.block k (by simp; exact Nat.lt_succ_of_lt (lt_of_heap h)) (own_ne own h hne)
  rw [Below.heap_alloc _ _ _ (lt_of_heap h)] at h3
  exact h3.trans h

/-- A loop over what waits, in flight: its record, the block for deferred calls, the box of the iterator; what lay ahead of the call lies as it lay. -/
structure Fy (w W : World) (r : Loop) (h L D x b : Nat) : Prop where
  l : W.heap[L]? = some (.loop r)
  dd : W.heap[D]? = some (.deferred (some []))
  xx : W.heap[x]? = some (.cells #[.pointer (some ⟨b, 0, none⟩)] 55)
  be : Below h w W
theorem Fy.of {w W W' : World} {r r' : Loop} {h L D x b : Nat} (J : Fy w W r h L D x b) (hl : W'.heap[L]? = some (.loop r')) (hb : Below h w W') (hk : ∀ k, k < W.heap.size → k ≠ L → W'.heap[k]? = W.heap[k]?) : Fy w W' r' h L D x b := by
  have kp : ∀ {k : Nat} {o : Obj}, W.heap[k]? = some o → o ≠ .loop r → W'.heap[k]? = some o := fun h1 h2 => (hk _ (lt_of_heap h1) (by rintro rfl; rw [J.l] at h1; exact h2 (Option.some.inj h1).symm)).trans h1
  exact ⟨hl, kp J.dd (by simp), kp J.xx (by simp), hb⟩
theorem put_other {W : World} {r r' : Loop} {L k : Nat} {o : Obj} (hl : W.heap[L]? = some (.loop r)) (h : W.heap[k]? = some o) (hne : ∀ r, o ≠ .loop r) : (W.putObj L (.loop r')).heap[k]? = some o :=
  (World.putObj_heap_other (by rintro rfl; rw [hl] at h; exact hne _ (Option.some.inj h).symm)).trans h
theorem Fy.put {w W : World} {r : Loop} {h L D x b : Nat} (J : Fy w W r h L D x b) (r' : Loop) (hL : h ≤ L) : Fy w (W.putObj L (.loop r')) r' h L D x b :=
  J.of (World.putObj_heap_same (lt_of_heap J.l)) ⟨J.be.os, J.be.tape, J.be.output, by rw [World.putObj_size]; exact J.be.size, fun k hk => (World.putObj_heap_other (by omega)).trans (J.be.block k hk)⟩ (fun _ _ hk => World.putObj_heap_other hk)
theorem own_put {W : World} {r r' : Loop} {L base : Nat} {e : TypeId} {s n : Nat} {v : Value} {xs : List Value} (h : W.ownsRow base e s v n xs) (hl : W.heap[L]? = some (.loop r)) : (W.putObj L (.loop r')).ownsRow base e s v n xs :=
  own_keep h fun k cur hc => (put_other hl hc (by simp)).trans hc.symm

/-- One number more in a box's row. -/
theorem box_more {w W : World} {r : Loop} {h L D x b H : Nat} {v : Value} {xs : List Value} {o' : Obj} {t : TypeId} {e : TypeId} {s : Nat} {n : Nat} {news : List Value} {v' : Value} {W5 : World} (J : Fy w W r h L D x b) (k1 : W.heap[H]? = some (.cells #[v] t)) (own : W.ownsRow h e s v n xs)
    (hg : (W.alloc o').grownBy W5 v.ownBlock) (own' : W5.ownsRow h e s v' (n + 1) (xs ++ news)) (hH : h ≤ H) (ht : t ≠ e) (hx : (55 : TypeId) ≠ e) (ht2 : t ≠ 55) :
    Fy w (W5.setCell ⟨H, 0, none⟩ v') r h L D x b ∧ W5.heap[H]? = some (.cells #[v] t) ∧ (W5.setCell ⟨H, 0, none⟩ v').heap[H]? = some (.cells #[v'] t) ∧ (W5.setCell ⟨H, 0, none⟩ v').ownsRow h e s v' (n + 1) (xs ++ news) := by
  have hs := J.be.size
  have H5 := grown_keep own hg k1 (by intro cur hc; simp at hc; exact ht hc.2)
  have kp : ∀ {k : Nat} {o : Obj}, W.heap[k]? = some o → (∀ cur, o ≠ .cells cur e (0, 0)) → k ≠ H → (W5.setCell ⟨H, 0, none⟩ v').heap[k]? = some o :=
    fun h1 h2 h3 => (Below.heap_setCell _ _ _ _ h3).trans (grown_keep own hg h1 h2)
  have ne : ∀ {k : Nat} {o : Obj}, W.heap[k]? = some o → (∀ cur, o ≠ .cells cur t (0, 0)) → k ≠ H := by
    rintro k o h1 h2 rfl
    rw [k1] at h1
    exact h2 _ (Option.some.inj h1).symm
  have hhW : h ≤ W.heap.size := by have := lt_of_heap k1; omega
  have own1 : (W.alloc o').ownsRow h e s v n xs := own_keep own fun k cur hc => Below.heap_alloc _ _ _ (lt_of_heap hc)
  have hbe : Below h w W5 := below_grown (J.be.alloc hhW _) own1 hg (by simp; omega)
  refine ⟨⟨kp J.l (by simp) (ne J.l (by simp)), kp J.dd (by simp) (ne J.dd (by simp)), kp J.xx (by intro cur hc; simp at hc; exact hx hc.2) (ne J.xx (by intro cur hc; simp at hc; exact ht2 hc.2.symm)), hbe.setCell (p := ⟨H, 0, none⟩) hH _⟩, H5, ?_, ?_⟩
  · rw [heap_set H5]; simp
  · refine own_keep own' fun k cur hc => Below.heap_setCell _ _ _ _ ?_
    rintro rfl
    rw [H5] at hc
    simp at hc
    exact ht hc.2
theorem setup (w : World) (r : Loop) : ((w.alloc (.deferred (some []))).alloc (.loop r)).heap[w.heap.size + 1]? = some (.loop r) ∧ ((w.alloc (.deferred (some []))).alloc (.loop r)).heap[w.heap.size]? = some (.deferred (some [])) ∧ Below w.heap.size w ((w.alloc (.deferred (some []))).alloc (.loop r)) :=
  ⟨putAll _ _ (by simp), (Below.heap_alloc _ _ _ (by simp)).trans (putAll _ _ rfl), ((Below.refl _ _).alloc (Nat.le_refl _) _).alloc (by simp) _⟩

theorem two0 (w : World) (o1 o2 : Obj) : ∃ V : World, ((w.alloc o1).alloc o2) = V ∧ V.heap.size = w.heap.size + 2 ∧ V.heap[w.heap.size]? = some o1 ∧ V.heap[w.heap.size + 1]? = some o2 ∧ Below w.heap.size w V := by
  refine ⟨_, rfl, by simp, ?_, ?_, ?_⟩
  · rw [Below.heap_alloc _ _ _ (by simp)]; exact putAll _ _ rfl
  · exact putAll _ _ (by simp)
  · exact ((Below.refl w.heap.size w).alloc (Nat.le_refl _) o1).alloc (by simp) o2
theorem four0 (w : World) (o1 o2 o3 o4 : Obj) : ∃ V : World, (((w.alloc o1).alloc o2).alloc o3).alloc o4 = V ∧ V.heap.size = w.heap.size + 4 ∧ V.heap[w.heap.size]? = some o1 ∧ V.heap[w.heap.size + 1]? = some o2 ∧ V.heap[w.heap.size + 2]? = some o3 ∧ V.heap[w.heap.size + 3]? = some o4 ∧ Below w.heap.size w V := by
  obtain ⟨V, hV, hs, g0, g1, hB⟩ := two0 w o1 o2
  obtain ⟨V2, hV2, hs2, g2, g3, hB2⟩ := two0 V o3 o4
  rw [hV, hV2]
  rw [hs] at g2 g3 hs2
  exact ⟨V2, rfl, hs2, (hB2.block _ (by omega)).trans g0, (hB2.block _ (by omega)).trans g1, g2, g3, hB.trans (hB2.mono (by omega))⟩
theorem three0 (w : World) (o1 o2 o3 : Obj) : ∃ V : World, ((w.alloc o1).alloc o2).alloc o3 = V ∧ V.heap.size = w.heap.size + 3 ∧ V.heap[w.heap.size]? = some o1 ∧ V.heap[w.heap.size + 1]? = some o2 ∧ V.heap[w.heap.size + 2]? = some o3 ∧ Below w.heap.size w V := by
  obtain ⟨V, hV, hs, g0, g1, hB⟩ := two0 w o1 o2
  rw [hV]
  refine ⟨_, rfl, by simp [hs], (Below.heap_alloc _ _ _ (by omega)).trans g0, (Below.heap_alloc _ _ _ (by omega)).trans g1, putAll _ _ hs.symm, hB.alloc (by omega) o3⟩
end Go.Proofs.Ythmdipfdloennaa

/-
  The contract of the iterator that inOrder answers: names and nodes are handed to the loop one behind the other.
-/
namespace Go.Proofs.Ythmdipfdloennaa
open Go.RowKit Go.Shelf
attribute [local go_sem] Oper.semAt_some

theorem inOrder_any (b : Nat) (w : World) : Calls Try.prog 27 #[P0 b] w fun e w' => e = .returned (.func (.func 36) #[] #[.pointer (some ⟨w.heap.size, 0, none⟩)]) ∧ w' = w.alloc (.cells #[.pointer (some ⟨b, 0, none⟩)] 55) := by
  go_enter Try.func27, Try.ntmps27
  go_wp2
  go_ret
  exact ⟨rfl, rfl⟩
set_option maxRecDepth 100000 in
set_option maxHeartbeats 1000000 in
theorem iter_some (l x b g m cap : Nat) (es : Ents) (W : World) (J : Nat → World → Prop) (hl : es.length = m) (hm : m ≤ 1000) (hJ0 : J 0 W)
    (hJA : ∀ i W', J i W' → W'.cell? ⟨x, 0, none⟩ = some (.pointer (some ⟨b, 0, none⟩)) ∧ W'.cell? ⟨b, 7, none⟩ = some (.slice (some ⟨g, 0, none⟩) m cap) ∧ ∀ (k : Nat) (a : ByteArray) (n : Int), es[k]? = some (a, n) → W'.cell? ⟨g, k * 2, none⟩ = some (.string a) ∧ W'.cell? ⟨g, k * 2 + 1, none⟩ = some (.int .i64 n))
    (hY : ∀ (i : Nat) W' a n, J i W' → es[i]? = some (a, n) → YieldAt Fence.wide (3 - 1) Try.prog l #[.string a, .int .i64 n] W' fun e W2 => e = .returned (.bool true) ∧ J (i + 1) W2) (hJL : ∀ i W' o, J i W' → J i (W'.alloc o)) :
    CallsIn Fence.wide 3 Try.prog 36 #[.func (.yield l) #[] #[], .pointer (some ⟨x, 0, none⟩)] W fun e W' => e = .returned (.tuple #[]) ∧ J m W' := by
  have hro : Fence.wide.round = none := rfl
  have HY := hide hY
  have HA := hide hJA
  have HLL := hide hJL
  have HL := hide hl
  obtain ⟨x0, b1, -⟩ := hJA 0 W hJ0
  clear hY hJA hJL hl
  refine callsIn_of_wp Try.func36 rfl trivial ?_ hro
  simp only [Try.ntmps36, List.size_toArray, List.length_cons, List.length_nil, Nat.reduceAdd, Nat.reduceSub, Array.replicate_succ, Array.replicate_zero, List.push_toArray, List.append_toArray, List.nil_append, List.cons_append]
  gi_wp2_with fail
  clear x0 b1
  gi_loopw [10] (fun i wr => ∃ k : Nat, k ≤ m ∧ i = .int .i64 k ∧ J k wr) (fun i _ => m - (intOf i).toNat)
  case atStart => exact ⟨0, Nat.zero_le _, rfl, hJ0⟩
  case round =>
    obtain ⟨k, hk, rfl, hJ⟩ := hrel
    by_cases hkn : k < m
    · obtain ⟨⟨a, n⟩, he⟩ : ∃ e, es[k]? = some e := ⟨_, List.getElem?_eq_getElem (by have := unhide HL; omega)⟩
      obtain ⟨x1, b1, hcs⟩ := unhide HA k wr hJ
      obtain ⟨y1, y2⟩ := hcs k a n he
      have j1 : (k : Int) < (m : Int) := by omega
      have j0 : (0 : Int) ≤ (k : Int) := by omega
      obtain ⟨fn, tmps, assign, body, hyy, hR⟩ := unhide HY k (wr.alloc (.cells #[.string a, .int .i64 n] 81)) a n (unhide HLL k wr _ hJ) he
      clear hJ hcs he
      gi_wp2_with fail
      refine hR.mono ?_
      rintro e W2 ⟨rfl, hJ2⟩
      gi_wp2_with fail
      go_roundw
      case rel => exact ⟨k + 1, by omega, by go_num, hJ2⟩
      case measure => simp [intOf]; omega
    · obtain rfl : k = m := by omega
      obtain ⟨x1, b1, -⟩ := unhide HA k wr hJ
      clear hkn
      gi_wp2_with fail
      go_end0
      exact ⟨rfl, hJ⟩
set_option maxRecDepth 100000 in
set_option maxHeartbeats 1000000 in
theorem iter_none (l x b : Nat) (W : World) (x0 : W.cell? ⟨x, 0, none⟩ = some (.pointer (some ⟨b, 0, none⟩))) (b1 : W.cell? ⟨b, 7, none⟩ = some (.slice none 0 0)) :
    CallsIn Fence.wide 3 Try.prog 36 #[.func (.yield l) #[] #[], .pointer (some ⟨x, 0, none⟩)] W fun e W' => e = .returned (.tuple #[]) ∧ W' = W := by
  have hro : Fence.wide.round = none := rfl
  refine callsIn_of_wp Try.func36 rfl trivial ?_ hro
  simp only [Try.ntmps36, List.size_toArray, List.length_cons, List.length_nil, Nat.reduceAdd, Nat.reduceSub, Array.replicate_succ, Array.replicate_zero, List.push_toArray, List.append_toArray, List.nil_append, List.cons_append]
  gi_wp2_with fail
  clear x0 b1
  gi_loopw [10] (fun i wr => i = .int .i64 0 ∧ wr = W) (fun _ _ => 0)
  case atStart => exact ⟨rfl, rfl⟩
  case round =>
    obtain ⟨rfl, rfl⟩ := hrel
    gi_wp2_with fail
    go_end0
    exact ⟨rfl, rfl⟩
/-- The names of a Dir, one behind the other. -/
theorem iter_go {lo : Nat} {V : World} {v : Value} (l x b : Nat) (es : Ents) (W : World) (J : Nat → World → Prop) (hr : Ro lo V v es) (hm : es.length ≤ 1000) (hJ0 : J 0 W)
    (hJA : ∀ i W', J i W' → Below V.heap.size V W' ∧ W'.cell? ⟨x, 0, none⟩ = some (.pointer (some ⟨b, 0, none⟩)) ∧ W'.cell? ⟨b, 7, none⟩ = some v)
    (hY : ∀ (i : Nat) W' a n, J i W' → es[i]? = some (a, n) → YieldAt Fence.wide (3 - 1) Try.prog l #[.string a, .int .i64 n] W' fun e W2 => e = .returned (.bool true) ∧ J (i + 1) W2) (hJL : ∀ i W' o, J i W' → J i (W'.alloc o)) :
    CallsIn Fence.wide 3 Try.prog 36 #[.func (.yield l) #[] #[], .pointer (some ⟨x, 0, none⟩)] W fun e W' => e = .returned (.tuple #[]) ∧ J es.length W' := by
  rcases hr.open' with ⟨rfl, rfl⟩ | ⟨g, cap, rfl, hcap, hcm, hlo, hgl, hcells⟩
  · obtain ⟨_, x0, b1⟩ := hJA 0 W hJ0
    refine (iter_none l x b W x0 b1).mono ?_
    rintro e W' ⟨rfl, rfl⟩
    exact ⟨rfl, hJ0⟩
  · refine iter_some l x b g es.length cap es W J rfl hm hJ0 (fun i W' hJ => ?_) hY hJL
    obtain ⟨hB, x0, b1⟩ := hJA i W' hJ
    refine ⟨x0, b1, fun k a n he => ?_⟩
    obtain ⟨h1, h2⟩ := hcells k a n he
    have hg := hB.block g hgl
    exact ⟨(cell_same hg _).trans h1, (cell_same hg _).trans h2⟩
end Go.Proofs.Ythmdipfdloennaa
