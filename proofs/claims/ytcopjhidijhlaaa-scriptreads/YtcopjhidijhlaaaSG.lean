/-
  Rows of items: as they came in, and rows that a call owns and appends to.
-/
import Derived.Test.YtcopjhidijhlaaaSF
import Derived.Test.YtcopjhidijhlaaaBrk
namespace Go.Proofs.Ytcopjhidijhlaaa.Cl
open Go.RowKit

theorem infoI : (Try.prog.info? 29).map (fun i => (i.zero, i.size, i.bytes)) = some (some (.agg Z12), 12, 128) := by kernel_rfl
/-- An item and its data. -/
abbrev Ip := It × Value
def rowI (p : Ip) : List Value := (p.1.cs p.2).toList
theorem rowI_len (p : Ip) : (rowI p).length = 12 := rfl
theorem rows_len (ps : List Ip) : (ps.flatMap rowI).length = ps.length * 12 := by
  induction ps with
  | nil => rfl
  | cons p ps ih => rw [List.flatMap_cons, List.length_append, rowI_len, ih, List.length_cons]; omega
theorem rows_get {ps : List Ip} {k : Nat} {p : Ip} (h : ps[k]? = some p) {j : Nat} {v : Value} (hj : (p.1.cs p.2)[j]? = some v) : (ps.flatMap rowI)[k * 12 + j]? = some v := by
  induction ps generalizing k with
  | nil => simp at h
  | cons q ps ih =>
    have hj12 : j < 12 := by
      have := (Array.getElem?_eq_some_iff.1 hj).1
      simpa [It.cs] using this
    rw [List.flatMap_cons]
    cases k with
    | zero =>
      simp at h
      subst h
      rw [List.getElem?_append_left (by rw [rowI_len]; omega), Nat.zero_mul, Nat.zero_add]
      simpa [rowI] using hj
    | succ k =>
      rw [List.getElem?_append_right (by rw [rowI_len]; omega), rowI_len, show (k + 1) * 12 + j - 12 = k * 12 + j by omega]
      exact ih (by simpa using h)
/-- The data that an item has. -/
def Du (W : World) (B : Nat) (p : Ip) : Prop := ∃ a cap, p.2 = .slice a p.1.c.data.length cap ∧ By W B a p.1.c.data ∧ p.1.c.data.length ≤ cap ∧ cap ≤ maxLen
theorem Du.below {W W' : World} {B : Nat} {p : Ip} (h : Du W B p) (g : Below B W W') : Du W' B p := by
  obtain ⟨a, cap, h1, h2, h3⟩ := h
  exact ⟨a, cap, h1, h2.below g, h3⟩
theorem Du.mono {W : World} {B B' : Nat} {p : Ip} (h : Du W B p) (g : B ≤ B') : Du W B' p := by
  obtain ⟨a, cap, h1, h2, h3⟩ := h
  exact ⟨a, cap, h1, h2.mono g, h3⟩
theorem Dt.du {W : World} {B : Nat} {p : Ip} (h : Dt W B p.2 p.1.c.data) : Du W B p := by
  obtain ⟨a, cap, h1, h2, h3, h4, -⟩ := h
  exact ⟨a, cap, h1, h2, h3, h4⟩
/-- Its data, if there is any, lies in no own block of v. -/
def Apt (v : Value) (p : Ip) : Prop := p.1.c.data ≠ [] → ∀ k, p.2.ownBlock = some k → v.ownBlock ≠ some k
theorem Du.grown {W W' : World} {B : Nat} {p : Ip} {v : Value} (h : Du W B p) (g : W.grownBy W' v.ownBlock) (hv : Apt v p) : Du W' B p := by
  obtain ⟨a, cap, h1, h2, h3⟩ := h
  refine ⟨a, cap, h1, fun k c hk => ?_, h3⟩
  obtain ⟨b, off, e1, e2, e3⟩ := h2 k c hk
  refine ⟨b, off, e1, e2, (World.cell?_of_block (g.block b (lt_of_cell e3) ?_)).trans e3⟩
  refine fun e => hv ?_ b ?_ e.symm
  · intro h0
    rw [h0] at hk
    simp at hk
  · rw [h1, e1]
    rfl
/-- A row of items. -/
def Ips (W : World) (B : Nat) (a : Option Addr) (ps : List Ip) : Prop := ∀ k p, ps[k]? = some p → ∃ g off, a = some ⟨g, off, none⟩ ∧ g < B ∧ (∀ j v, (p.1.cs p.2)[j]? = some v → W.cell? ⟨g, off + k * 12 + j, none⟩ = some v) ∧ Du W B p
theorem Ips.below {W W' : World} {B : Nat} {a : Option Addr} {ps : List Ip} (h : Ips W B a ps) (g : Below B W W') : Ips W' B a ps := fun k p hk => by
  obtain ⟨b, off, h1, h2, h3, h4⟩ := h k p hk
  exact ⟨b, off, h1, h2, fun j v hj => (World.cell?_of_block (g.block b h2)).trans (h3 j v hj), h4.below g⟩
theorem Ips.mono {W : World} {B B' : Nat} {a : Option Addr} {ps : List Ip} (h : Ips W B a ps) (g : B ≤ B') : Ips W B' a ps := fun k p hk => by
  obtain ⟨b, off, h1, h2, h3, h4⟩ := h k p hk
  exact ⟨b, off, h1, Nat.lt_of_lt_of_le h2 g, h3, h4.mono g⟩
theorem Ips.take {W : World} {B : Nat} {a : Option Addr} {ps : List Ip} (h : Ips W B a ps) (n : Nat) : Ips W B a (ps.take n) := fun k p hk => by
  rw [List.getElem?_take] at hk
  split at hk
  · exact h k p hk
  · cases hk
theorem Ips.nil (W : World) (B : Nat) (a : Option Addr) : Ips W B a [] := fun k p h => by simp at h
/-- A row of items that a call owns, from block B on. -/
def Ir (W : World) (B : Nat) (v : Value) (ps : List Ip) : Prop := W.ownsRow B 29 12 v ps.length (ps.flatMap rowI) ∧ ∀ p ∈ ps, Du W W.heap.size p ∧ Apt v p
theorem Ir.nil (W : World) (B : Nat) : Ir W B (.slice none 0 0) [] := ⟨World.ownsRow_nil _ _ _ _, fun p h => by cases h⟩
theorem Ir.below {W W' : World} {B : Nat} {v : Value} {ps : List Ip} (h : Ir W B v ps) (g : Below W.heap.size W W') : Ir W' B v ps := by
  obtain ⟨⟨h1, h2⟩, h3⟩ := h
  refine ⟨⟨h1, ?_⟩, fun p hp => ⟨((h3 p hp).1.below g).mono g.size, (h3 p hp).2⟩⟩
  obtain h2 | ⟨b, cap, cur, e1, e2, e3, e4⟩ := h2
  · exact .inl h2
  · exact .inr ⟨b, cap, cur, e1, e2, (g.block b (lt_of_heap e3)).trans e3, e4⟩
theorem Ir.form {W : World} {B : Nat} {v : Value} {ps : List Ip} (h : Ir W B v ps) : ∃ a cap, v = .slice a ps.length cap ∧ Ips W W.heap.size a ps ∧ ps.length ≤ cap ∧ cap ≤ maxLen := by
  obtain ⟨⟨-, ⟨rfl, h2⟩ | ⟨g, cap, cur, rfl, h2, h3, h4, h5, h6, h7⟩⟩, h8⟩ := h
  · obtain rfl := List.eq_nil_of_length_eq_zero h2
    exact ⟨none, 0, rfl, Ips.nil _ _ _, Nat.le_refl _, by unfold maxLen; omega⟩
  · refine ⟨some ⟨g, 0, none⟩, cap, rfl, fun k p hk => ⟨g, 0, rfl, lt_of_heap h3, fun j v hj => ?_, (h8 p (List.mem_of_getElem? hk)).1⟩, h4, h5⟩
    have hg := rows_get hk hj
    rw [← h7] at hg
    have hlt := (List.getElem?_eq_some_iff.1 hg).1
    rw [List.getElem?_take_of_lt (by rw [List.length_take] at hlt; omega)] at hg
    rw [cell_of h3, Nat.zero_add]
    simpa using hg
theorem Ir.sl {W : World} {B : Nat} {v : Value} {ps : List Ip} (h : Ir W B v ps) : ∃ a cap, v = .slice a ps.length cap := by
  obtain ⟨a, c, e, -⟩ := h.form
  exact ⟨a, c, e⟩
theorem Ir.own {W : World} {B : Nat} {v : Value} {ps : List Ip} (h : Ir W B v ps) {k : Nat} (e : v.ownBlock = some k) : B ≤ k ∧ k < W.heap.size ∧ ∃ cs, W.heap[k]? = some (.cells cs 29) := by
  obtain ⟨⟨-, ⟨rfl, -⟩ | ⟨g, cap, cur, rfl, h2, h3, -⟩⟩, -⟩ := h
  · cases e
  · simp [Value.ownBlock] at e
    subst e
    exact ⟨h2, lt_of_heap h3, _, h3⟩
/-- What an append to such a row leaves alone. -/
structure Ki (B : Nat) (v : Value) (w w' : World) : Prop where
  be : Below B w w'
  oth : ∀ k, k < w.heap.size → v.ownBlock ≠ some k → w'.heap[k]? = w.heap[k]?
/-- Items behind items. -/
theorem Ir.app {W : World} {B : Nat} {v : Value} {ps qs : List Ip} (h : Ir W B v ps) (hb : B ≤ W.heap.size) (a : Option Addr) (n c : Nat) (hn : n = qs.length) (hq : Ips W W.heap.size a qs) (hne : a ≠ none ∨ qs = []) (hA : ∀ q ∈ qs, Apt v q) (hl : ps.length + qs.length ≤ 1000000) :
    ∃ v' W', (Builtin.append_ #[30, 30] 30 #[v, .slice a n c]).run Try.prog W = .ok v' W' ∧ Ir W' B v' (ps ++ qs) ∧ Ki B v W W' := by
  subst hn
  have hi := infoI
  obtain ⟨i, hi, hz0, hz1, hz2⟩ : ∃ i, Try.prog.info? 29 = some i ∧ i.zero = some (.agg Z12) ∧ i.size = 12 ∧ i.bytes = 128 := by
    cases h5 : Try.prog.info? 29 with
    | none => rw [h5] at hi; simp at hi
    | some i => rw [h5] at hi; simp at hi; exact ⟨i, rfl, hi.1, hi.2.1, hi.2.2⟩
  have ht := Try.underlying30
  have hmax : (281474976710656 : Nat) ≤ maxLen := by decide
  have hown := h.1
  cases qs with
  | nil =>
    refine ⟨v, W, ?_, by simpa using h, ⟨Below.refl _ _, fun _ _ _ => rfl⟩⟩
    obtain ⟨-, ⟨rfl, -⟩ | ⟨g, cap, cur, rfl, h2, h3, h4, h5, h6, h7⟩⟩ := hown
    · cases a <;> simp [Builtin.append_, run_underlying ht, sizeOf, typeInfo, hi, Builtin.lenOf, Builtin.firstCells, loadCells, loadCellsFrom]
    · cases a <;> simp [Builtin.append_, run_underlying ht, sizeOf, typeInfo, hi, Builtin.lenOf, Builtin.firstCells, loadCells, loadCellsFrom, h4, storeCells]
  | cons q qs =>
    obtain ⟨sb, so, rfl, hsb, -⟩ := hq 0 q rfl
    have hnews : ∀ j u, ((q :: qs).flatMap rowI)[j]? = some u → W.cell? ((⟨sb, so, none⟩ : Addr).add j) = some u := by
      intro j u hj
      have hj1 := (List.getElem?_eq_some_iff.1 hj).1
      rw [rows_len] at hj1
      have hk : j / 12 < (q :: qs).length := by omega
      obtain ⟨b', o', e1, -, h3, -⟩ := hq (j / 12) _ (List.getElem?_eq_getElem hk)
      simp at e1
      obtain ⟨rfl, rfl⟩ := e1
      have hjm : j % 12 < 12 := Nat.mod_lt _ (by omega)
      obtain ⟨u', hu'⟩ : ∃ u', (((q :: qs)[j / 12]'hk).1.cs ((q :: qs)[j / 12]'hk).2)[j % 12]? = some u' := ⟨_, Array.getElem?_eq_getElem (by simpa [It.cs] using hjm)⟩
      have h4 := rows_get (List.getElem?_eq_getElem hk) hu'
      rw [show j / 12 * 12 + j % 12 = j by omega, hj] at h4
      obtain rfl := Option.some.inj h4
      have h5 := h3 (j % 12) u hu'
      rw [addAt]
      rw [show so + j / 12 * 12 + j % 12 = so + j by omega] at h5
      exact h5
    have h1c : ∀ u ∈ (q :: qs).flatMap rowI, u.oneCell' = true := by
      intro u hu
      rw [List.mem_flatMap] at hu
      obtain ⟨p, hp, hu⟩ := hu
      obtain ⟨k, hk⟩ := List.mem_iff_getElem?.1 hp
      obtain ⟨-, -, -, -, -, da, dc, e, -⟩ := hq k p hk
      simp only [rowI, It.cs, e, List.mem_cons, List.not_mem_nil, or_false] at hu
      rcases hu with rfl | rfl | rfl | rfl | rfl | rfl | rfl | rfl | rfl | rfl | rfl | rfl <;> rfl
    obtain ⟨v', W', r1, r2, r3, -, r5⟩ := run_append_own_at (P := Try.prog) W B 30 30 29 i (.agg Z12) 12 128 ht hi hz0 hz1 hz2 rfl (by decide) v ps.length _ hown ⟨sb, so, none⟩ (q :: qs).length c ((q :: qs).flatMap rowI) (rows_len _) hnews h1c (by unfold maxLen; omega) (by omega) hb
    have hlen : (ps ++ q :: qs).length = ps.length + (q :: qs).length := List.length_append
    refine ⟨v', W', r1, ⟨by rw [hlen, List.flatMap_append]; exact r2, fun p hp => ?_⟩, ⟨r3.os, r3.tape, r3.output, r3.size, fun k hk => r3.block k (by omega) (fun e => ?_)⟩, fun k hk hne => r3.block k hk (fun e => hne e.symm)⟩
    · have hp2 : Du W W.heap.size p ∧ Apt v p := by
        rcases List.mem_append.1 hp with hp | hp
        · exact h.2 p hp
        · obtain ⟨k, hk⟩ := List.mem_iff_getElem?.1 hp
          obtain ⟨-, -, -, -, -, hdu⟩ := hq k p hk
          exact ⟨hdu, hA p hp⟩
      refine ⟨(hp2.1.grown r3 hp2.2).mono r3.size, fun hnn k e => ?_⟩
      rcases r5 with r5 | r5
      · rw [r5]
        exact hp2.2 hnn k e
      · rw [r5]
        intro e2
        obtain ⟨da, dc, e3, hby, -⟩ := hp2.1
        obtain ⟨c0, hc0⟩ : ∃ c0, p.1.c.data[0]? = some c0 := ⟨_, List.getElem?_eq_getElem (by
          cases hd : p.1.c.data with
          | nil => exact absurd hd hnn
          | cons c l => simp)⟩
        obtain ⟨b', off', e4, h5, -⟩ := hby 0 c0 hc0
        rw [e3, e4] at e
        simp [Value.ownBlock] at e
        simp at e2
        omega
    · have := (h.own e.symm).1
      omega
/-- One item behind items. -/
theorem Ir.new {W : World} {B : Nat} {v : Value} {ps : List Ip} (h : Ir W B v ps) (hb : B ≤ W.heap.size) (x : It) (d : Value) (hd : Du W W.heap.size (x, d)) (hA : Apt v (x, d)) (hl : ps.length < 999999) :
    ∃ v' W', (Builtin.append_ #[30, 30] 30 #[v, .slice (some ⟨W.heap.size, 0, none⟩) 1 1]).run Try.prog (W.alloc (.cells (x.cs d) 29)) = .ok v' W' ∧ Ir W' B v' (ps ++ [(x, d)]) ∧ Ki B v W W' := by
  have hB : Below W.heap.size W (W.alloc (.cells (x.cs d) 29)) := (Below.refl _ _).alloc (Nat.le_refl _) _
  have hs : (W.alloc (.cells (x.cs d) 29)).heap.size = W.heap.size + 1 := by simp
  obtain ⟨v', W', h1, h2, h3⟩ := (h.below hB).app (qs := [(x, d)]) (by omega) (some ⟨W.heap.size, 0, none⟩) 1 1 rfl (fun k p hk => by
    cases k with
    | zero =>
      simp at hk
      subst hk
      refine ⟨W.heap.size, 0, rfl, by omega, fun j u hj => ?_, (hd.below hB).mono (by omega)⟩
      rw [cell_of (heap_alloc_new W _), Nat.zero_mul, Nat.zero_add]
      exact hj
    | succ k => simp at hk) (.inl (by simp)) (fun q hq => by
      obtain rfl : q = (x, d) := by simpa using hq
      exact hA) (by simp; omega)
  exact ⟨v', W', h1, h2, ⟨(hB.mono hb).trans h3.be, fun k hk hne => (h3.oth k (by omega) hne).trans (hB.block k hk)⟩⟩
end Go.Proofs.Ytcopjhidijhlaaa.Cl
