/-
  What a walk is told of a slice of Asks that came in; the two arenas and the handles had, between two rounds.
-/
import Derived.Test.YtfhphamjalpjpaaPlaysA
namespace Go.Proofs.Ytfhphamjalpjpaa
open Go.ChangeShapes Go.WideShapes Go.ChangeAt Go.RowKit Go.Deep

def Asks (w : World) (a : Option Addr) (len : Nat) : Prop :=
  len ≤ maxLen ∧ ∀ i, i < len → ∃ (b off : Nat) (k o v s x : Int), a = some ⟨b, off, none⟩ ∧ b < w.heap.size ∧ w.cell? ⟨b, off + i * 5, none⟩ = some (.int .i64 k) ∧ w.cell? ⟨b, off + i * 5 + 1, none⟩ = some (.int .i64 o) ∧
    w.cell? ⟨b, off + i * 5 + 2, none⟩ = some (.int .i64 v) ∧ w.cell? ⟨b, off + i * 5 + 3, none⟩ = some (.int .i64 s) ∧ w.cell? ⟨b, off + i * 5 + 4, none⟩ = some (.int .i64 x)
theorem cells43 : Try.prog.cellsOf 43 = 5 := by kernel_rfl
theorem cells29 : Try.prog.cellsOf 29 = 2 := by kernel_rfl
theorem cells3 : Try.prog.cellsOf 3 = 1 := by kernel_rfl
theorem cells2 : Try.prog.cellsOf 2 = 1 := by kernel_rfl
theorem asks_of {H : Type} {enc : TypeId × Value → H} {w : World} {held : Bool} {fuel : Nat} {a : Option Addr} {len cap : Nat} {x : DataW H × List MemPlace}
    (h : DataW.trod enc Try.prog w 0 (fun _ => true) held fuel 39 [.slice a len cap] = some x) : Asks w a len := by
  rcases open_slice Try.underlying39 h with ⟨hcs, _⟩ | ⟨y, l, c, m, n, D, Pl, hcs, _, hl, hm, hmm, _, hx⟩
  · simp at hcs
    obtain ⟨rfl, rfl, rfl⟩ := hcs
    exact ⟨Nat.zero_le _, fun i hi => absurd hi (Nat.not_lt_zero _)⟩
  · simp at hcs
    obtain ⟨rfl, rfl, rfl⟩ := hcs
    simp at hmm
    subst hmm
    refine ⟨Nat.le_trans hl hm, fun i hi => ?_⟩
    have key : ∀ j, j ≤ i → ∃ (k o v s x : Int), w.cell? (y.add (j * 5)) = some (.int .i64 k) ∧ w.cell? (y.add (j * 5 + 1)) = some (.int .i64 o) ∧ w.cell? (y.add (j * 5 + 2)) = some (.int .i64 v) ∧ w.cell? (y.add (j * 5 + 3)) = some (.int .i64 s) ∧ w.cell? (y.add (j * 5 + 4)) = some (.int .i64 x) := by
      intro j hj
      obtain ⟨cs', h1, h2⟩ := hx j (by omega)
      rw [cells43] at h1
      obtain ⟨_, hlen, hcell⟩ := World.cells?_some h1
      obtain ⟨xs, k, hk, hxy, _, hxl, hf⟩ := DataW.trod_struct Try.underlying43 h2
      match xs, hxl, cs', hlen with
      | [y0, y1, y2, y3], _, [v0, v1, v2, v3, v4], _ =>
        have g0 := hf 0 _ rfl
        have g1 := hf 1 _ rfl
        have g2 := hf 2 _ rfl
        have g3 := hf 3 _ rfl
        simp [cells3, cells2, cells29] at g0 g1 g2 g3
        obtain ⟨n0, e0, _, _⟩ := DataW.trod_int Try.underlying3 g0
        obtain ⟨n1, e1, _, _⟩ := DataW.trod_int Try.underlying3 g1
        obtain ⟨n2, e2, _, _⟩ := DataW.trod_int Try.underlying2 g2
        obtain ⟨xs2, k2, hk2, hxy2, _, hxl2, hf2⟩ := DataW.trod_struct Try.underlying29 g3
        match xs2, hxl2 with
        | [z0, z1], _ =>
          have q0 := hf2 0 _ rfl
          have q1 := hf2 1 _ rfl
          simp [cells3, cells2] at q0 q1
          obtain ⟨n3, e3, _, _⟩ := DataW.trod_int Try.underlying3 q0
          obtain ⟨n4, e4, _, _⟩ := DataW.trod_int Try.underlying2 q1
          simp at e0 e1 e2 e3 e4
          subst e0 e1 e2 e3 e4
          have c0 := hcell 0 (by omega)
          have c1 := hcell 1 (by omega)
          have c2 := hcell 2 (by omega)
          have c3 := hcell 3 (by omega)
          have c4 := hcell 4 (by omega)
          rw [add_add] at c0 c1 c2 c3 c4
          exact ⟨n0, n1, n2, n3, n4, by simpa using c0, by simpa using c1, by simpa using c2, by simpa using c3, by simpa using c4⟩
    obtain ⟨k0, o0, v0, s0, x0, c0, -⟩ := key 0 (by omega)
    obtain ⟨k, o, v, s, x, d0, d1, d2, d3, d4⟩ := key i (by omega)
    obtain ⟨b, off, sp⟩ := y
    have e : (⟨b, off, sp⟩ : Addr).add (0 * 5) = ⟨b, off, sp⟩ := rfl
    rw [e] at c0
    obtain rfl := spot_none c0
    rw [addr_add] at d0 d1 d2 d3 d4
    exact ⟨b, off, k, o, v, s, x, rfl, cell_lt d0, d0, by simpa [Nat.add_assoc] using d1, by simpa [Nat.add_assoc] using d2, by simpa [Nat.add_assoc] using d3, by simpa [Nat.add_assoc] using d4⟩

/-- Between two rounds. -/
structure PL (h : Nat) (w1 : World) (b c d n B rb gb vb : Nat) (v8 : Value) (xs : List Slot) (W : World) (a : Sa) : Prop where
  ar : Ar W b c d n a.1 a.2.1 a.2.2
  ra : ∃ tv, RA B W rb gb vb n a.1 a.2.1 tv a.2.2
  hs : Hs h W v8 xs
  be : Below h w1 W
  sz : B ≤ W.heap.size
  lo : h ≤ b ∧ h ≤ c ∧ h ≤ d ∧ b < B ∧ c < B ∧ d < B ∧ h ≤ B
theorem PS.pl {h : Nat} {w1 : World} {b c d n B rb gb vb : Nat} {v8 : Value} {xs : List Slot} {B10 B11 : Nat} {kk ko kv ks kx s x : Int} {W : World} {a : Sa} (P : PS h w1 b c d n B rb gb vb v8 xs B10 B11 kk ko kv ks kx s x W a a) : PL h w1 b c d n B rb gb vb v8 xs W a := ⟨P.ar, P.ra, P.hs, P.be, P.sz, P.lo⟩
theorem PL.dn {h : Nat} {w1 : World} {b c d n B rb gb vb : Nat} {v8 : Value} {xs : List Slot} {W : World} {a : Sa} (P : PL h w1 b c d n B rb gb vb v8 xs W a) (m : Nat) : PL h w1 b c d n B rb gb vb v8 xs (W.drewN m) a := by
  obtain ⟨tv, R⟩ := P.ra
  exact ⟨P.ar.dn m, ⟨tv, R.dn m⟩, P.hs.keep (fun _ _ _ _ => rfl), below_dn P.be m, P.sz, P.lo⟩
/-- Two boxes more. -/
theorem PL.boxes {h : Nat} {w1 : World} {b c d n B rb gb vb : Nat} {v8 : Value} {xs : List Slot} {W : World} {a : Sa} (P : PL h w1 b c d n B rb gb vb v8 xs W a) (kk ko kv ks kx : Int) : PS h w1 b c d n B rb gb vb v8 xs W.heap.size (W.heap.size + 1) kk ko kv ks kx ks kx ((W.alloc (kObj kk ko kv ks kx)).alloc (hObj ks kx)) a a := by
  have g1 := (Below.refl W.heap.size W).alloc (Nat.le_refl _) (kObj kk ko kv ks kx)
  have g := g1.alloc (by simp) (hObj ks kx)
  obtain ⟨tv, R⟩ := P.ra
  have hsz := P.sz
  have hlo := P.lo
  exact ⟨P.ar.below g, ⟨tv, R.below g⟩, P.hs.below g, by rw [Below.heap_alloc _ _ _ (by simp)]; exact putAll _ _ rfl, putAll _ _ (by simp), P.be.trans (g.mono (by omega)), by simp; omega, P.lo⟩
/-- Another handle in the box. -/
theorem PS.reset {h : Nat} {w1 : World} {b c d n B rb gb vb : Nat} {v8 : Value} {xs : List Slot} {B10 B11 : Nat} {kk ko kv ks kx s x : Int} {W : World} {a r : Sa} (P : PS h w1 b c d n B rb gb vb v8 xs B10 B11 kk ko kv ks kx s x W a r) (hB : B ≤ B11) (h8 : v8.ownBlock ≠ some B11) (s' x' : Int) :
    PS h w1 b c d n B rb gb vb v8 xs B10 B11 kk ko kv ks kx s' x' ((W.setCell ⟨B11, 0, none⟩ (.int .i64 s')).setCell ⟨B11, 1, none⟩ (.int .i64 x')) a r := by
  obtain ⟨tv, R⟩ := P.ra
  obtain ⟨l1, l2, l3, l4, l5, l6, l7⟩ := P.lo
  have st : ∀ k, k ≠ B11 → ((W.setCell ⟨B11, 0, none⟩ (.int .i64 s')).setCell ⟨B11, 1, none⟩ (.int .i64 x')).heap[k]? = W.heap[k]? := fun k hk => by rw [Below.heap_setCell _ _ _ _ hk, Below.heap_setCell _ _ _ _ hk]
  have ne : ∀ {k : Nat} {o : Obj}, W.heap[k]? = some o → (∀ cur, o ≠ .cells cur 29 (0, 0)) → k ≠ B11 := by
    rintro k o h1 h2 rfl
    rw [P.k11] at h1
    exact h2 _ (Option.some.inj h1).symm
  exact ⟨P.ar.of (st b (by omega)) (st c (by omega)) (st d (by omega)), ⟨tv, R.of fun k o _ ho hno => st k (ne ho hno)⟩, P.hs.keep (fun k cur hk _ => st k (by rintro rfl; exact h8 hk)), (st _ (ne P.k10 (by simp))).trans P.k10, heap_set (heap_set P.k11 0 _) 1 _, (P.be.setCell (p := ⟨B11, 0, none⟩) (by show h ≤ B11; omega) _).setCell (p := ⟨B11, 1, none⟩) (by show h ≤ B11; omega) _, by simp [World.setCell]; exact P.sz, P.lo⟩
end Go.Proofs.Ytfhphamjalpjpaa
