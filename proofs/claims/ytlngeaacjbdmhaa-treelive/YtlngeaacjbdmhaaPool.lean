/-
  A pool in its blocks; the contracts of New, Size, Used, Left.
-/
import Derived.Test.YtlngeaacjbdmhaaWriteA
namespace Go.Proofs.Ytlngeaacjbdmhaa
open Go.RowKit Go.Maps

/-- Blocks that are none of the pool's: those ahead of lo, and those that K names. -/
structure Bse where
  lo : Nat
  K : Nat → Prop
def Bse.ok (B : Bse) (b : Nat) : Prop := B.lo ≤ b ∧ ¬ B.K b
def Bse.inn (B : Bse) (W : World) : Prop := B.lo ≤ W.heap.size ∧ ∀ b, B.K b → b < W.heap.size
theorem Bse.inn.new {B : Bse} {W : World} (h : B.inn W) {b : Nat} (hb : W.heap.size ≤ b) : B.ok b := ⟨Nat.le_trans h.1 hb, fun k => by have := h.2 b k; omega⟩
theorem Bse.inn.mono {B : Bse} {W W' : World} (h : B.inn W) (hs : W.heap.size ≤ W'.heap.size) : B.inn W' := ⟨Nat.le_trans h.1 hs, fun b k => Nat.lt_of_lt_of_le (h.2 b k) hs⟩
/-- What a call of the pool leaves alone: all ahead of base, and whatever is none of the pool's own. -/
structure Nx (base : Bse) (W W' : World) : Prop where
  bel : Below base.lo W W'
  oth : ∀ (b : Nat) (cs : Array Value) (t : TypeId) (f : Nat × Nat), W.heap[b]? = some (.cells cs t f) → t ≠ 86 → t ≠ 99 → W'.heap[b]? = some (.cells cs t f)
  kp : ∀ b, base.K b → W'.heap[b]? = W.heap[b]?
theorem Nx.of_below {base : Bse} {W W' : World} (h : Below W.heap.size W W') (hb : base.inn W) : Nx base W W' :=
  ⟨h.mono hb.1, fun b _ _ _ hb' _ _ => (h.block b (lt_of_heap hb')).trans hb', fun b k => h.block b (hb.2 b k)⟩
theorem Nx.refl {base : Bse} {W : World} (hb : base.inn W) : Nx base W W := .of_below (Below.refl _ _) hb
theorem Nx.trans {base : Bse} {u v w : World} (h : Nx base u v) (g : Nx base v w) : Nx base u w :=
  ⟨h.bel.trans g.bel, fun b cs t f hb h1 h2 => g.oth b cs t f (h.oth b cs t f hb h1 h2) h1 h2, fun b k => (g.kp b k).trans (h.kp b k)⟩
theorem Nx.of_fr {base : Bse} {S : List Nat} {W W' : World} (h : Fr S W W') (hb : base.inn W) (hs : ∀ b ∈ S, base.ok b ∧ ∀ (cs : Array Value) (t : TypeId) (f : Nat × Nat), W.heap[b]? = some (.cells cs t f) → t = 86 ∨ t = 99) : Nx base W W' :=
  ⟨h.base hb.1 fun b hb => (hs b hb).1.1, fun b cs t f hb' h1 h2 => (h.blk b (lt_of_heap hb') fun hS => (((hs b hS).2 cs t f hb').elim h1 h2)).trans hb', fun b k => h.blk b (hb.2 b k) fun hS => (hs b hS).1.2 k⟩
/-- A pool in its blocks. -/
structure PlI (base : Bse) (n : Nat) (W : World) (p : Nat) (s : S) (fb : Nat) (cb mb : Int → Nat) : Prop where
  hp : W.heap[p]? = some (.cells #[I s.left, I s.fs.length, .map (some fb)] 86)
  hf : Mp W fb s.fs.length (fun k => if (s.get k).isSome = true then some (P0 (cb k)) else none)
  hx : ∀ k x, s.get k = some x → Fl W (cb k) (mb k) x
  dc : ∀ j k x y, s.get j = some x → s.get k = some y → j ≠ k → cb j ≠ cb k ∧ mb j ≠ mb k
  df : ∀ k x, s.get k = some x → mb k ≠ fb
  bp : base.ok p ∧ base.ok fb ∧ ∀ k x, s.get k = some x → base.ok (cb k) ∧ base.ok (mb k)
  bs : base.inn W
  tot : s.left + total s.fs = n
  nn : n ≤ 256
def Pl (base : Bse) (n : Nat) (W : World) (p : Nat) (s : S) : Prop := ∃ fb cb mb, PlI base n W p s fb cb mb
section
variable {base : Bse} {n : Nat} {W W' : World} {p : Nat} {s : S} {fb : Nat} {cb mb : Int → Nat}
theorem PlI.cells (h : PlI base n W p s fb cb mb) : W.cell? ⟨p, 0, none⟩ = some (I s.left) ∧ W.cell? ⟨p, 1, none⟩ = some (I s.fs.length) ∧ W.cell? ⟨p, 2, none⟩ = some (.map (some fb)) ∧ ∀ i, W.frozen? ⟨p, i, none⟩ = false :=
  ⟨by rw [cell_of h.hp]; rfl, by rw [cell_of h.hp]; rfl, by rw [cell_of h.hp]; rfl, frozen_of h.hp⟩
theorem map_blk {W : World} {b n : Nat} {f : Int → Option Value} (h : Mp W b n f) {cs : Array Value} {t : TypeId} {z : Nat × Nat} (e : W.heap[b]? = some (.cells cs t z)) : False := by
  obtain ⟨D, ⟨es, k, h1, _⟩, _⟩ := h
  rw [h1] at e
  cases e
theorem PlI.below (h : PlI base n W p s fb cb mb) (g : Below W.heap.size W W') : PlI base n W' p s fb cb mb :=
  ⟨(g.block p (lt_of_heap h.hp)).trans h.hp, h.hf.below g, fun k x hk => (h.hx k x hk).below g, h.dc, h.df, h.bp, h.bs.mono g.size, h.tot, h.nn⟩
theorem Pl.below (h : Pl base n W p s) (g : Below W.heap.size W W') : Pl base n W' p s := let ⟨fb, cb, mb, h⟩ := h; ⟨fb, cb, mb, h.below g⟩
/-- The pool stays where all that is its own does. -/
theorem Pl.keep (h : Pl base n W p s) (hs : W.heap.size ≤ W'.heap.size) (hm : ∀ (b : Nat) (es : Array MapEntry) (k : Nat), W.heap[b]? = some (.map es k) → W'.heap[b]? = W.heap[b]?) (hc : ∀ (b : Nat) (cs : Array Value) (t : TypeId) (f : Nat × Nat), W.heap[b]? = some (.cells cs t f) → t = 86 ∨ t = 99 → W'.heap[b]? = W.heap[b]?) : Pl base n W' p s := by
  obtain ⟨fb, cb, mb, h⟩ := h
  have hM : ∀ {b m f}, Mp W b m f → Mp W' b m f := fun {b m f} hm' => hm'.same (by
    obtain ⟨D, ⟨es, k, h1, _⟩, _⟩ := hm'
    exact hm b es k h1)
  exact ⟨fb, cb, mb, (hc _ _ _ _ h.hp (.inl rfl)).trans h.hp, hM h.hf, fun k x hk => ⟨(hc _ _ _ _ (h.hx k x hk).hc (.inr rfl)).trans (h.hx k x hk).hc, hM (h.hx k x hk).hm, (h.hx k x hk).ok⟩, h.dc, h.df, h.bp, h.bs.mono hs, h.tot, h.nn⟩
end
theorem zero54 (w : World) : (zeroValue 96).run Try.prog w = .ok (.pointer none) w := (zero_of_info (P := Try.prog) (t := 96) (v := .pointer none) (n := 1) (by kernel_rfl)).1 w
/-- The look for a file. -/
theorem PlI.look {base : Bse} {n : Nat} {W : World} {p : Nat} {s : S} {fb : Nat} {cb mb : Int → Nat} (h : PlI base n W p s fb cb mb) {f : Int} (hf : (kl f).wf = true) :
    (Instr.lookup 84 (.map (some fb)) (I f) true).run Try.prog W = .ok (.tuple #[(if (s.get f).isSome = true then P0 (cb f) else .pointer none), .bool (s.get f).isSome]) W := by
  have := h.hf.look_ok ht51 (zero54 _) hf
  rw [this]
  cases (s.get f).isSome <;> simp
theorem new_bad (n : Int) (h : n < 0 ∨ 256 < n) (w : World) : Calls Try.prog 19 #[I n] w fun e w' => e = .returned (.tuple #[.pointer none, I 1]) ∧ w' = w := by
  by_cases h0 : n < 0
  · go_enter Try.func19, Try.ntmps19
    go_wp2_with fail
    go_ret2
    exact ⟨rfl, rfl⟩
  · have h1 : 256 < n := by omega
    have h2 : 0 ≤ n := by omega
    go_enter Try.func19, Try.ntmps19
    go_wp2_with fail
    go_ret2
    exact ⟨rfl, rfl⟩
theorem new_good (n : Nat) (hn : n ≤ 256) (w : World) : Calls Try.prog 19 #[I (n : Int)] w fun e w' => ∃ p, e = .returned (.tuple #[P0 p, I 0]) ∧ Pl ⟨w.heap.size, fun _ => False⟩ n w' p ⟨n, []⟩ ∧ Below w.heap.size w w' := by
  have h1 : ¬ (256 : Int) < (n : Int) := by omega
  have h2 : (0 : Int) ≤ (n : Int) := by omega
  have h3 : (n : Int) ≤ 256 := by omega
  have hmm := @run_makeMap Try.prog
  go_enter Try.func19, Try.ntmps19
  go_wp2_with fail
  go_ret2
  refine ⟨w.heap.size + 1, rfl, ?_, ((Below.refl _ w).alloc (Nat.le_refl _) _).alloc (by simp) _⟩
  have hg : ∀ k, (⟨n, []⟩ : S).get k = none := fun k => by simp [S.get]
  have hno : ∀ k x, (⟨n, []⟩ : S).get k = some x → False := fun k x h => by rw [hg] at h; cases h
  refine ⟨w.heap.size, fun _ => 0, fun _ => 0, ⟨?_, ?_, fun k x h => (hno k x h).elim, fun j _ x _ h => (hno j x h).elim, fun k x h => (hno k x h).elim, ⟨⟨by simp, fun h => h⟩, ⟨Nat.le_refl _, fun h => h⟩, fun k x h => (hno k x h).elim⟩, ⟨by simp; omega, fun _ h => h.elim⟩, by simp [total], hn⟩⟩
  · have := heap_alloc_new (w.alloc (Obj.map #[] 0)) (Obj.cells #[I (n : Int), Value.int IntKind.i64 0, Value.map (some w.heap.size)] 86)
    simp only [World.size_alloc] at this
    exact this
  · refine ((Mp.made w).alloc _).congr fun k => ?_
    rw [hg]
    rfl
def sizeO : Option F → Nat
  | none => 0
  | some x => x.size
theorem size_any {base : Bse} {n : Nat} {W : World} {p : Nat} {s : S} (h : Pl base n W p s) {f : Int} (hf : (kl f).wf = true) : Calls Try.prog 51 #[P0 p, I f] W fun e w' => e = .returned (I (sizeO (s.get f))) ∧ w' = W := by
  obtain ⟨fb, cb, mb, h⟩ := h
  obtain ⟨c0, c1, c2, cf⟩ := h.cells
  have hl := h.look hf
  cases e : s.get f with
  | none =>
    rw [e] at hl
    simp only [Option.isSome_none, Bool.false_eq_true, if_false] at hl
    clear h
    go_enter Try.func51, Try.ntmps51
    go_wp2_with fail
    go_ret
    exact ⟨rfl, rfl⟩
  | some x =>
    obtain ⟨k0, k1, kf⟩ := (h.hx f x e).cells
    rw [e] at hl
    simp only [Option.isSome_some, if_true] at hl
    clear h e
    go_enter Try.func51, Try.ntmps51
    go_wp2_with fail
    go_ret
    exact ⟨rfl, rfl⟩
/-- Blocks that are new since are kept from now on. -/
theorem Pl.rebase {base base' : Bse} {n : Nat} {W W' : World} {p : Nat} {s : S} (h : Pl base n W p s) (g : Below W.heap.size W W') (hl : base'.lo ≤ base.lo) (hk : ∀ b, base'.K b → base.K b ∨ (W.heap.size ≤ b ∧ b < W'.heap.size)) : Pl base' n W' p s := by
  obtain ⟨fb, cb, mb, h⟩ := h
  have ok : ∀ b, b < W.heap.size → base.ok b → base'.ok b := fun b hb h1 => ⟨Nat.le_trans hl h1.1, fun k => (hk b k).elim h1.2 fun h2 => by omega⟩
  have h2 := h.below g
  exact ⟨fb, cb, mb, h2.hp, h2.hf, h2.hx, h2.dc, h2.df, ⟨ok _ (lt_of_heap h.hp) h.bp.1, ok _ h.hf.lt h.bp.2.1, fun k x hk => ⟨ok _ (lt_of_heap (h.hx k x hk).hc) (h.bp.2.2 k x hk).1, ok _ (h.hx k x hk).hm.lt (h.bp.2.2 k x hk).2⟩⟩, ⟨Nat.le_trans hl h2.bs.1, fun b k => (hk b k).elim (h2.bs.2 b) fun h3 => h3.2⟩, h2.tot, h2.nn⟩
end Go.Proofs.Ytlngeaacjbdmhaa
