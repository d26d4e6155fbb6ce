/-
  A tree in its blocks.
-/
import Derived.Test.YtlngeaacjbdmhaaSearch
import Derived.Test.YtlngeaacjbdmhaaTrB
namespace Go.Proofs.Ytlngeaacjbdmhaa
open Go.RowKit Go.Maps

/-- What a call of the tree leaves alone: all ahead of lo, and whatever is none of its own. -/
structure Tx (lo : Nat) (W W' : World) : Prop where
  bel : Below lo W W'
  oth : ∀ (b : Nat) (cs : Array Value) (t : TypeId) (f : Nat × Nat), W.heap[b]? = some (.cells cs t f) → t ≠ 86 → t ≠ 99 → t ≠ 57 → t ≠ 61 → t ≠ 92 → W'.heap[b]? = some (.cells cs t f)
theorem Tx.of_below {lo : Nat} {W W' : World} (h : Below W.heap.size W W') (hb : lo ≤ W.heap.size) : Tx lo W W' := ⟨h.mono hb, fun b _ _ _ hb' _ _ _ _ _ => (h.block b (lt_of_heap hb')).trans hb'⟩
theorem Tx.refl {lo : Nat} {W : World} (hb : lo ≤ W.heap.size) : Tx lo W W := .of_below (Below.refl _ _) hb
theorem Tx.trans {lo : Nat} {u v w : World} (h : Tx lo u v) (g : Tx lo v w) : Tx lo u w := ⟨h.bel.trans g.bel, fun b cs t f e h1 h2 h3 h4 h5 => g.oth b cs t f (h.oth b cs t f e h1 h2 h3 h4 h5) h1 h2 h3 h4 h5⟩
theorem Tx.of_nx {base : Bse} {W W' : World} (h : Nx base W W') : Tx base.lo W W' := ⟨h.bel, fun b cs t f e h1 h2 _ _ _ => h.oth b cs t f e h1 h2⟩
theorem Tx.size {lo : Nat} {W W' : World} (h : Tx lo W W') : W.heap.size ≤ W'.heap.size := h.bel.size
/-- But for block b, and o's, all that lay lies as it lay. -/
structure Fn (b : Nat) (o : Option Nat) (w w' : World) : Prop where
  os : w'.os = w.os
  tape : w'.tape = w.tape
  output : w'.output = w.output
  size : w.heap.size ≤ w'.heap.size
  blk : ∀ k, k < w.heap.size → k ≠ b → some k ≠ o → w'.heap[k]? = w.heap[k]?
theorem Fn.of_below {b : Nat} {o : Option Nat} {w w' : World} (h : Below w.heap.size w w') : Fn b o w w' := ⟨h.os, h.tape, h.output, h.size, fun k hk _ _ => h.block k hk⟩
theorem Fn.refl (b : Nat) (o : Option Nat) (w : World) : Fn b o w w := .of_below (Below.refl _ _)
theorem Fn.trans {b : Nat} {o : Option Nat} {u v w : World} (h : Fn b o u v) (g : Fn b o v w) : Fn b o u w := ⟨g.os.trans h.os, g.tape.trans h.tape, g.output.trans h.output, Nat.le_trans h.size g.size, fun k hk h1 h2 => (g.blk k (Nat.lt_of_lt_of_le hk h.size) h1 h2).trans (h.blk k hk h1 h2)⟩
theorem Fn.set {b : Nat} {o : Option Nat} {u w : World} (h : Fn b o u w) (i : Nat) (v : Value) : Fn b o u (w.setCell ⟨b, i, none⟩ v) :=
  ⟨h.os, h.tape, h.output, by have := h.size; simp [World.setCell]; exact this, fun k hk h1 h2 => (Below.heap_setCell _ _ _ _ h1).trans (h.blk k hk h1 h2)⟩
theorem Fn.grown {b : Nat} {o : Option Nat} {u w w' : World} (h : Fn b o u w) (g : w.grownBy w' o) : Fn b o u w' :=
  ⟨g.os.trans h.os, g.tape.trans h.tape, g.output.trans h.output, Nat.le_trans h.size g.size, fun k hk h1 h2 => (g.block k (Nat.lt_of_lt_of_le hk h.size) h2).trans (h.blk k hk h1 h2)⟩
theorem Fn.drew {b : Nat} {o : Option Nat} {u w : World} (h : Fn b o u w) : Fn b o u w.drew := ⟨h.os, h.tape, h.output, h.size, h.blk⟩

def ndC (x : Nd) (v : Value) : Array Value := #[I x.kind, I x.mode, I x.uid, I x.gid, I (x.names : Int), I (x.holds : Int), I x.up, v, I x.file, .string x.text]
/-- The nodes, each in its block, its names in a row of their own. -/
structure TrI (lo N : Nat) (W : World) (t : Nat) (T : Tr) (q p : Nat) (nb : Int → Nat) (ev : Int → Value) : Prop where
  ht : W.heap[t]? = some (.cells #[I (T.most : Int), I (T.made : Int), .map (some q), P0 p] 57)
  hm : Mp W q (T.made + 1) (fun k => if (T.nd k).isSome = true then some (P0 (nb k)) else none)
  hn : ∀ k x, T.nd k = some x → W.heap[nb k]? = some (.cells (ndC x (ev k)) 61) ∧ Ro lo W (ev k) x.ins
  dn : ∀ j k x y, T.nd j = some x → T.nd k = some y → j ≠ k → nb j ≠ nb k ∧ ((ev j).ownBlock = none ∨ (ev j).ownBlock ≠ (ev k).ownBlock)
  pl : Pl ⟨lo, fun b => b = q⟩ N W p T.pool
  bd : lo ≤ t ∧ lo ≤ q ∧ lo ≤ W.heap.size ∧ ∀ k x, T.nd k = some x → lo ≤ nb k
def Tp (lo N : Nat) (W : World) (t : Nat) (T : Tr) : Prop := ∃ q p nb ev, TrI lo N W t T q p nb ev
theorem Ro.blk {lo : Nat} {W : World} {v : Value} {es : Ents} (h : Ro lo W v es) {g : Nat} (e : v.ownBlock = some g) : lo ≤ g ∧ ∃ cur, W.heap[g]? = some (.cells cur 92) := by
  obtain ⟨-, ⟨rfl, _⟩ | ⟨g', cap, cur, rfl, hgb, hgg, _⟩⟩ := h
  · simp [Value.ownBlock] at e
  · simp [Value.ownBlock] at e
    subst e
    exact ⟨hgb, cur, hgg⟩
theorem Ro.same {lo : Nat} {W W' : World} {v : Value} {es : Ents} (h : Ro lo W v es) (hb : ∀ g, v.ownBlock = some g → W'.heap[g]? = W.heap[g]?) : Ro lo W' v es := by
  obtain ⟨hl, h1 | ⟨g, cap, cur, rfl, hgb, hgg, hr⟩⟩ := h
  · exact ⟨hl, .inl h1⟩
  · exact ⟨hl, .inr ⟨g, cap, cur, rfl, hgb, (hb g rfl).trans hgg, hr⟩⟩
section
variable {lo N : Nat} {W W' : World} {t : Nat} {T : Tr} {q p : Nat} {nb : Int → Nat} {ev : Int → Value}
theorem TrI.cells (h : TrI lo N W t T q p nb ev) : W.cell? ⟨t, 0, none⟩ = some (I (T.most : Int)) ∧ W.cell? ⟨t, 1, none⟩ = some (I (T.made : Int)) ∧ W.cell? ⟨t, 2, none⟩ = some (.map (some q)) ∧ W.cell? ⟨t, 3, none⟩ = some (P0 p) ∧ ∀ i, W.frozen? ⟨t, i, none⟩ = false :=
  ⟨by rw [cell_of h.ht]; rfl, by rw [cell_of h.ht]; rfl, by rw [cell_of h.ht]; rfl, by rw [cell_of h.ht]; rfl, frozen_of h.ht⟩
theorem ndcells {b : Nat} {x : Nd} {v : Value} (h : W.heap[b]? = some (.cells (ndC x v) 61)) : W.cell? ⟨b, 0, none⟩ = some (I x.kind) ∧ W.cell? ⟨b, 1, none⟩ = some (I x.mode) ∧ W.cell? ⟨b, 2, none⟩ = some (I x.uid) ∧ W.cell? ⟨b, 3, none⟩ = some (I x.gid) ∧ W.cell? ⟨b, 4, none⟩ = some (I (x.names : Int)) ∧ W.cell? ⟨b, 5, none⟩ = some (I (x.holds : Int)) ∧ W.cell? ⟨b, 6, none⟩ = some (I x.up) ∧ W.cell? ⟨b, 7, none⟩ = some v ∧ W.cell? ⟨b, 8, none⟩ = some (I x.file) ∧ W.cell? ⟨b, 9, none⟩ = some (.string x.text) ∧ ∀ i, W.frozen? ⟨b, i, none⟩ = false := by
  refine ⟨?_, ?_, ?_, ?_, ?_, ?_, ?_, ?_, ?_, ?_, frozen_of h⟩ <;> (rw [cell_of h]; rfl)
theorem TrI.below (h : TrI lo N W t T q p nb ev) (g : Below W.heap.size W W') : TrI lo N W' t T q p nb ev :=
  ⟨(g.block t (lt_of_heap h.ht)).trans h.ht, h.hm.below g, fun k x hk => ⟨(g.block _ (lt_of_heap (h.hn k x hk).1)).trans (h.hn k x hk).1, (h.hn k x hk).2.below g⟩, h.dn, h.pl.below g, ⟨h.bd.1, h.bd.2.1, Nat.le_trans h.bd.2.2.1 g.size, h.bd.2.2.2⟩⟩
theorem Tp.below (h : Tp lo N W t T) (g : Below W.heap.size W W') : Tp lo N W' t T := let ⟨q, p, nb, ev, h⟩ := h; ⟨q, p, nb, ev, h.below g⟩
theorem Tp.alloc (h : Tp lo N W t T) (o : Obj) : Tp lo N (W.alloc o) t T := h.below ((Below.refl _ W).alloc (Nat.le_refl _) o)
theorem Tp.lo_le (h : Tp lo N W t T) : lo ≤ W.heap.size := let ⟨_, _, _, _, h⟩ := h; h.bd.2.2.1
/-- The tree stays where all that is its own does. -/
theorem Tp.keep (h : Tp lo N W t T) (hs : W.heap.size ≤ W'.heap.size) (hm : ∀ (b : Nat) (es : Array MapEntry) (k : Nat), W.heap[b]? = some (.map es k) → W'.heap[b]? = W.heap[b]?)
    (hc : ∀ (b : Nat) (cs : Array Value) (t : TypeId) (f : Nat × Nat), W.heap[b]? = some (.cells cs t f) → t = 86 ∨ t = 99 ∨ t = 57 ∨ t = 61 ∨ t = 92 → W'.heap[b]? = W.heap[b]?) : Tp lo N W' t T := by
  obtain ⟨q, p, nb, ev, h⟩ := h
  refine ⟨q, p, nb, ev, (hc _ _ _ _ h.ht (by simp)).trans h.ht, h.hm.same ?_, fun k x hk => ⟨(hc _ _ _ _ (h.hn k x hk).1 (by simp)).trans (h.hn k x hk).1, (h.hn k x hk).2.same fun g hg => ?_⟩, h.dn, h.pl.keep hs hm fun b cs t f e ht => hc b cs t f e (by rcases ht with ht | ht <;> simp [ht]), ⟨h.bd.1, h.bd.2.1, Nat.le_trans h.bd.2.2.1 hs, h.bd.2.2.2⟩⟩
  · obtain ⟨D, ⟨es, k, h1, _⟩, _⟩ := h.hm
    exact hm q es k h1
  · obtain ⟨_, cur, hc'⟩ := (h.hn k x hk).2.blk hg
    exact hc _ _ _ _ hc' (by simp)
theorem TrI.tn (h : TrI lo N W t T q p nb ev) {k : Int} {x : Nd} (hk : T.nd k = some x) : t ≠ nb k := fun e => by
  have := (h.hn k x hk).1
  rw [← e, h.ht] at this
  simp at this
theorem TrI.own (h : TrI lo N W t T q p nb ev) {k : Int} {x : Nd} (hk : T.nd k = some x) {b : Nat} {cs : Array Value} {ty : TypeId} {f : Nat × Nat} (hb : W.heap[b]? = some (.cells cs ty f)) (ht : ty ≠ 92) : some b ≠ (ev k).ownBlock := fun e => by
  obtain ⟨_, cur, hc⟩ := (h.hn k x hk).2.blk e.symm
  rw [hc] at hb
  cases hb
  exact ht rfl
theorem TrI.ownm (h : TrI lo N W t T q p nb ev) {k : Int} {x : Nd} (hk : T.nd k = some x) {b : Nat} {es : Array MapEntry} {c : Nat} (hb : W.heap[b]? = some (.map es c)) : b ≠ nb k ∧ some b ≠ (ev k).ownBlock := by
  refine ⟨fun e => ?_, fun e => ?_⟩
  · rw [e, (h.hn k x hk).1] at hb; cases hb
  · obtain ⟨_, cur, hc⟩ := (h.hn k x hk).2.blk e.symm
    rw [hc] at hb; cases hb
/-- One node has turned. -/
theorem TrI.turn (h : TrI lo N W t T q p nb ev) {n : Int} {x y : Nd} {v : Value} (hx : T.nd n = some x) (F : Fn (nb n) (ev n).ownBlock W W') (hy : W'.heap[nb n]? = some (.cells (ndC y v) 61)) (hr : Ro lo W' v y.ins)
    (hv : v.ownBlock = (ev n).ownBlock ∨ ∃ g, v.ownBlock = some g ∧ W.heap.size ≤ g) : TrI lo N W' t (T.set n (some y)) q p nb (fun k => if k = n then v else ev k) ∧ Tx lo W W' := by
  obtain ⟨hb, hro⟩ := h.hn n x hx
  have hsome : ∀ k, ((T.set n (some y)).nd k).isSome = (T.nd k).isSome := fun k => by
    by_cases e : k = n
    · subst e; simp [Tr.set, hx]
    · simp [Tr.set, e]
  have hkeep : ∀ (b : Nat) (cs : Array Value) (ty : TypeId) (f : Nat × Nat), W.heap[b]? = some (.cells cs ty f) → ty ≠ 61 → ty ≠ 92 → W'.heap[b]? = W.heap[b]? := fun b cs ty f e h1 h2 =>
    F.blk b (lt_of_heap e) (fun e2 => by rw [e2, hb] at e; cases e; exact h1 rfl) (h.own hx e h2)
  have hkm : ∀ (b : Nat) (es : Array MapEntry) (c : Nat), W.heap[b]? = some (.map es c) → W'.heap[b]? = W.heap[b]? := fun b es c e => F.blk b (lt_of_heap e) (h.ownm hx e).1 (h.ownm hx e).2
  have hbel : Below lo W W' := ⟨F.os, F.tape, F.output, F.size, fun k hk => F.blk k (Nat.lt_of_lt_of_le hk h.bd.2.2.1) (fun e => by have := h.bd.2.2.2 n x hx; omega) fun e => by have := (hro.blk e.symm).1; omega⟩
  refine ⟨⟨?_, ?_, ?_, ?_, ?_, ?_⟩, ⟨hbel, fun b cs ty f e _ _ _ h4 h5 => (hkeep b cs ty f e h4 h5).trans e⟩⟩
  · exact (hkeep _ _ _ _ h.ht (by decide) (by decide)).trans h.ht
  · refine (h.hm.same ?_).congr fun k => by rw [hsome]
    obtain ⟨D, ⟨es, k, h1, _⟩, _⟩ := h.hm
    exact hkm q es k h1
  · intro k z hz
    by_cases e : k = n
    · subst e
      rw [Tr.set_same] at hz
      cases hz
      simp only [if_pos]
      exact ⟨hy, hr⟩
    · rw [Tr.set_other _ _ e] at hz
      simp only [if_neg e]
      obtain ⟨d1, d2⟩ := h.dn k n z x hz hx e
      refine ⟨(F.blk _ (lt_of_heap (h.hn k z hz).1) d1 (h.own hx (h.hn k z hz).1 (by decide))).trans (h.hn k z hz).1, (h.hn k z hz).2.same fun g hg => ?_⟩
      obtain ⟨_, cur, hc⟩ := (h.hn k z hz).2.blk hg
      refine F.blk g (lt_of_heap hc) (fun e2 => by rw [e2, hb] at hc; cases hc) ?_
      rcases d2 with d2 | d2
      · rw [hg] at d2; cases d2
      · rw [← hg]; exact d2
  · intro j k z u hz hu hjk
    have old : ∀ i w', T.nd i = some w' → i ≠ n → (ev i).ownBlock = none ∨ (ev i).ownBlock ≠ v.ownBlock := fun i w' hi hin => by
      rcases hv with hv | ⟨g, hv, hg⟩
      · rw [hv]; exact (h.dn i n w' x hi hx hin).2
      · right
        intro e
        obtain ⟨_, cur, hc⟩ := (h.hn i w' hi).2.blk (e.trans hv)
        have := lt_of_heap hc
        omega
    by_cases e : j = n
    · by_cases e2 : k = n
      · exact absurd (e.trans e2.symm) hjk
      · rw [Tr.set_other _ _ e2] at hu
        subst e
        refine ⟨(h.dn j k x u hx hu hjk).1, ?_⟩
        simp only [if_pos, if_neg e2]
        rcases old k u hu e2 with h1 | h1
        · by_cases h2 : v.ownBlock = none
          · exact .inl h2
          · exact .inr fun e3 => h2 (e3.trans h1)
        · exact .inr (Ne.symm h1)
    · rw [Tr.set_other _ _ e] at hz
      by_cases e2 : k = n
      · subst e2
        refine ⟨(h.dn j k z x hz hx hjk).1, ?_⟩
        simp only [if_pos, if_neg e]
        exact old j z hz e
      · rw [Tr.set_other _ _ e2] at hu
        simp only [if_neg e, if_neg e2]
        exact h.dn j k z u hz hu hjk
  · exact h.pl.keep F.size hkm fun b cs ty f e ht => hkeep b cs ty f e (by rcases ht with ht | ht <;> (rw [ht]; decide)) (by rcases ht with ht | ht <;> (rw [ht]; decide))
  · refine ⟨h.bd.1, h.bd.2.1, Nat.le_trans h.bd.2.2.1 F.size, fun k z hz => ?_⟩
    by_cases e : k = n
    · subst e; exact h.bd.2.2.2 k x hx
    · rw [Tr.set_other _ _ e] at hz
      exact h.bd.2.2.2 k z hz
/-- What Files hold has turned. -/
theorem TrI.poolT (h : TrI lo N W t T q p nb ev) {s : S} (P : Pl ⟨lo, fun b => b = q⟩ N W' p s) (nx : Nx ⟨lo, fun b => b = q⟩ W W') : TrI lo N W' t { T with pool := s } q p nb ev ∧ Tx lo W W' := by
  refine ⟨⟨nx.oth _ _ _ _ h.ht (by decide) (by decide), h.hm.same (nx.kp q rfl), fun k x hk => ⟨nx.oth _ _ _ _ (h.hn k x hk).1 (by decide) (by decide), (h.hn k x hk).2.same fun g hg => ?_⟩, h.dn, P, ⟨h.bd.1, h.bd.2.1, Nat.le_trans h.bd.2.2.1 nx.bel.size, h.bd.2.2.2⟩⟩, .of_nx nx⟩
  obtain ⟨_, cur, hc⟩ := (h.hn k x hk).2.blk hg
  exact (nx.oth _ _ _ _ hc (by decide) (by decide)).trans hc.symm
end
theorem htN : Try.prog.underlying 55 = some (.map 3 62) := Try.underlying55
theorem zeroPN (w : World) : (zeroValue 62).run Try.prog w = .ok (.pointer none) w := (zero_of_info (P := Try.prog) (t := 62) (v := .pointer none) (n := 1) (by kernel_rfl)).1 w
section
variable {lo N : Nat} {W W' : World} {t : Nat} {T : Tr} {q p : Nat} {nb : Int → Nat} {ev : Int → Value}
/-- The look for a node. -/
theorem TrI.look_ok (h : TrI lo N W t T q p nb ev) {n : Int} (hn : (kl n).wf = true) :
    (Instr.lookup 55 (.map (some q)) (I n) true).run Try.prog W = .ok (.tuple #[(if (T.nd n).isSome = true then P0 (nb n) else .pointer none), .bool (T.nd n).isSome]) W := by
  rw [h.hm.look_ok htN (zeroPN _) hn]
  cases (T.nd n).isSome <;> simp
theorem TrI.look (h : TrI lo N W t T q p nb ev) {n : Int} (hn : (kl n).wf = true) :
    (Instr.lookup 55 (.map (some q)) (I n) false).run Try.prog W = .ok (if (T.nd n).isSome = true then P0 (nb n) else .pointer none) W := by
  rw [h.hm.look htN (zeroPN _) hn]
  cases (T.nd n).isSome <;> simp
end
end Go.Proofs.Ytlngeaacjbdmhaa
