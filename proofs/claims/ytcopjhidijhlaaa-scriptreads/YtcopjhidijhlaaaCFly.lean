/-
  A loop over a function, in flight: its record, and blocks that stay.
-/
import Derived.Test.YtcopjhidijhlaaaCIter
namespace Go.Proofs.Ytcopjhidijhlaaa.Cl
open Go.RowKit Go.Shelf

structure Fg (w W : World) (r : Loop) (h L : Nat) (ks : List (Nat × Obj)) : Prop where
  l : W.heap[L]? = some (.loop r)
  kp : ∀ p ∈ ks, W.heap[p.1]? = some p.2
  be : Below h w W
theorem Fg.nth {w W : World} {r : Loop} {h L : Nat} {ks : List (Nat × Obj)} (F : Fg w W r h L ks) (i : Nat) {b : Nat} {o : Obj} (hp : ks[i]? = some (b, o)) : W.heap[b]? = some o := F.kp (b, o) (List.mem_of_getElem? hp)
theorem Fg.lt {w W : World} {r : Loop} {h L : Nat} {ks : List (Nat × Obj)} (F : Fg w W r h L ks) : L < W.heap.size := lt_of_heap F.l
theorem below_put {B L : Nat} {w W : World} (h : Below B w W) (hL : B ≤ L) (o : Obj) : Below B w (W.putObj L o) :=
  ⟨h.os, h.tape, h.output, by rw [World.putObj_size]; exact h.size, fun k hk => (World.putObj_heap_other (by omega)).trans (h.block k hk)⟩
theorem Fg.put {w W : World} {r : Loop} {h L : Nat} {ks : List (Nat × Obj)} (F : Fg w W r h L ks) (r' : Loop) (hL : h ≤ L) (hn : ∀ p ∈ ks, p.1 ≠ L) : Fg w (W.putObj L (.loop r')) r' h L ks :=
  ⟨World.putObj_heap_same F.lt, fun p hp => (World.putObj_heap_other (hn p hp)).trans (F.kp p hp), below_put F.be hL _⟩
theorem Fg.below {w W W' : World} {r : Loop} {h L : Nat} {ks : List (Nat × Obj)} (F : Fg w W r h L ks) (g : Below W.heap.size W W') (hL : h ≤ L) : Fg w W' r h L ks :=
  ⟨(g.block _ F.lt).trans F.l, fun p hp => (g.block _ (lt_of_heap (F.kp p hp))).trans (F.kp p hp), F.be.trans (g.mono (by have := F.lt; omega))⟩
theorem Fg.kept {w W W' : World} {r : Loop} {h L : Nat} {ks : List (Nat × Obj)} (F : Fg w W r h L ks) (g : Kp h W W') (hk : ∀ p ∈ ks, ∀ c fz, p.2 ≠ .cells c 5 fz) : Fg w W' r h L ks :=
  ⟨g.keepO F.l (by simp), fun p hp => g.keepO (F.kp p hp) (hk p hp), F.be.trans g.be⟩
/-- A store into a block beside those that stay. -/
theorem Fg.set {w W : World} {r : Loop} {h L : Nat} {ks ks' : List (Nat × Obj)} (F : Fg w W r h L ks) (b i : Nat) (v : Value) (hb : h ≤ b) (hL : b ≠ L) (hk : ∀ p ∈ ks', (p ∈ ks ∧ p.1 ≠ b) ∨ (W.setCell ⟨b, i, none⟩ v).heap[p.1]? = some p.2) : Fg w (W.setCell ⟨b, i, none⟩ v) r h L ks' := by
  refine ⟨(Below.heap_setCell _ _ _ _ (fun e => hL (by simpa using e.symm))).trans F.l, fun p hp => ?_, F.be.setCell (p := ⟨b, i, none⟩) hb _⟩
  rcases hk p hp with ⟨h1, h2⟩ | h1
  · exact (Below.heap_setCell _ _ _ _ (fun e => h2 (by simpa using e))).trans (F.kp p h1)
  · exact h1
theorem setup (w : World) (r : Loop) : ((w.alloc (.deferred (some []))).alloc (.loop r)).heap[w.heap.size + 1]? = some (.loop r) ∧ ((w.alloc (.deferred (some []))).alloc (.loop r)).heap[w.heap.size]? = some (.deferred (some [])) ∧ Below w.heap.size w ((w.alloc (.deferred (some []))).alloc (.loop r)) ∧ ((w.alloc (.deferred (some []))).alloc (.loop r)).heap.size = w.heap.size + 2 :=
  ⟨putAll _ _ (by simp), (Below.heap_alloc _ _ _ (by simp)).trans (putAll _ _ rfl), ((Below.refl _ _).alloc (Nat.le_refl _) _).alloc (by simp) _, by simp⟩
theorem alloc1 (w : World) (o : Obj) : ∃ V, w.alloc o = V ∧ V.heap.size = w.heap.size + 1 ∧ V.heap[w.heap.size]? = some o ∧ Below w.heap.size w V := ⟨_, rfl, by simp, putAll _ _ rfl, (Below.refl _ _).alloc (Nat.le_refl _) _⟩
theorem alloc2 (w : World) (o1 o2 : Obj) : ∃ V : World, ((w.alloc o1).alloc o2) = V ∧ V.heap.size = w.heap.size + 2 ∧ V.heap[w.heap.size]? = some o1 ∧ V.heap[w.heap.size + 1]? = some o2 ∧ Below w.heap.size w V := by
  refine ⟨_, rfl, by simp, ?_, ?_, ?_⟩
  · rw [Below.heap_alloc _ _ _ (by simp)]; exact putAll _ _ rfl
  · exact putAll _ _ (by simp)
  · exact ((Below.refl w.heap.size w).alloc (Nat.le_refl _) o1).alloc (by simp) o2
theorem alloc3 (w : World) (o1 o2 o3 : Obj) : ∃ V : World, ((w.alloc o1).alloc o2).alloc o3 = V ∧ V.heap.size = w.heap.size + 3 ∧ V.heap[w.heap.size]? = some o1 ∧ V.heap[w.heap.size + 1]? = some o2 ∧ V.heap[w.heap.size + 2]? = some o3 ∧ Below w.heap.size w V := by
  obtain ⟨V, hV, hs, g0, g1, hB⟩ := alloc2 w o1 o2
  rw [hV]
  refine ⟨_, rfl, by simp [hs], (Below.heap_alloc _ _ _ (by omega)).trans g0, (Below.heap_alloc _ _ _ (by omega)).trans g1, putAll _ _ hs.symm, hB.alloc (by omega) o3⟩

/-- A call, as plain data. -/
structure Cc where
  op : Int
  path : List UInt8
  dst : List UInt8
  fd : Int
  fl : Int
  mo : Int
  n : Int
  m : Int
  data : List UInt8
/-- Its cells; d: the slice of its bytes. -/
abbrev Cc.cs (x : Cc) (d : Value) : Array Value := #[I x.op, S x.path, S x.dst, I x.fd, I x.fl, I x.mo, I x.n, I x.m, d]
def Cc.num (x : Cc) : Nat → Int
  | 0 => x.fd
  | 1 => x.fl
  | 2 => x.mo
  | 3 => x.n
  | _ => x.m
theorem Cc.num_get (x : Cc) (d : Value) {k : Nat} (h : k < 5) : (x.cs d)[3 + k]? = some (I (x.num k)) := by
  match k, h with
  | 0, _ => rfl
  | 1, _ => rfl
  | 2, _ => rfl
  | 3, _ => rfl
  | 4, _ => rfl
def okN (n : Int) : Bool := decide (-2147483648 ≤ n) && decide (n ≤ 2147483647)
def Cc.okNs (x : Cc) : Bool := okN x.fd && okN x.fl && okN x.mo && okN x.n && okN x.m
/-- Why a call can't be written. -/
def Cc.right (x : Cc) : Int := if x.op < 1 ∨ 20 < x.op then 1 else if x.okNs = false then 1 else if 5000 < x.path.length ∨ 5000 < x.dst.length ∨ 2000 < x.data.length then 3 else 0
theorem okN_true {n : Int} (h : okN n = true) : -2147483648 ≤ n ∧ n ≤ 2147483647 := by simpa [okN] using h
theorem okN_false {n : Int} (h : okN n = false) : n < -2147483648 ∨ 2147483647 < n := by
  rcases Int.lt_or_le n (-2147483648) with h1 | h1
  · exact .inl h1
  · right
    simp [okN, h1] at h
    exact h
theorem Cc.okNs_of {x : Cc} (h : ∀ k, k < 5 → okN (x.num k) = true) : x.okNs = true := by
  have h0 := h 0 (by omega); have h1 := h 1 (by omega); have h2 := h 2 (by omega); have h3 := h 3 (by omega); have h4 := h 4 (by omega)
  simp only [Cc.num] at h0 h1 h2 h3 h4
  simp [Cc.okNs, h0, h1, h2, h3, h4]
theorem Cc.okNs_get {x : Cc} (h : x.okNs = true) (k : Nat) : okN (x.num k) = true := by
  simp [Cc.okNs] at h
  obtain ⟨⟨⟨⟨h0, h1⟩, h2⟩, h3⟩, h4⟩ := h
  match k with
  | 0 => exact h0
  | 1 => exact h1
  | 2 => exact h2
  | 3 => exact h3
  | (j + 4) => exact h4
theorem Cc.okNs_no {x : Cc} {k : Nat} (h : okN (x.num k) = false) : x.okNs = false := by
  cases hx : x.okNs with
  | false => rfl
  | true => rw [Cc.okNs_get hx k] at h; cases h
end Go.Proofs.Ytcopjhidijhlaaa.Cl
