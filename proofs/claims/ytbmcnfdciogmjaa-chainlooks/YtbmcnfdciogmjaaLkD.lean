/-
  The calls ahead of the look.
-/
import Derived.Test.YtbmcnfdciogmjaaLkC
namespace Go.Proofs.Ytbmcnfdciogmjaa
open Go.RowKit Go.Sort

structure C1 (w : World) (bt n rb ib io : Nat) (key : ByteArray) (v : Int) (W : World) (m q : Pairs) : Prop where
  tb : Tbl w.heap.size w W bt n m
  rf : Rf w.heap.size W rb q
  lt : ib < w.heap.size
  c1 : w.cell? ⟨ib, io + 1, none⟩ = some (.string key)
  c2 : w.cell? ⟨ib, io + 2, none⟩ = some (.int .i64 v)
  ks : key.size ≤ 9223372036854775807
abbrev Cq (W : World) (ib io : Nat) (key : ByteArray) (v : Int) : Prop := W.cell? ⟨ib, io + 1, none⟩ = some (.string key) ∧ W.cell? ⟨ib, io + 2, none⟩ = some (.int .i64 v)
section
variable {w : World} {bt n rb ib io : Nat} {key : ByteArray} {v : Int} {W W' : World} {m q : Pairs}
theorem C1.cs (P : C1 w bt n rb ib io key v W m q) : Cq W ib io key v := ⟨(cell_same (P.tb.bel.block ib P.lt) _).trans P.c1, (cell_same (P.tb.bel.block ib P.lt) _).trans P.c2⟩
theorem C1.drew (P : C1 w bt n rb ib io key v W m q) : C1 w bt n rb ib io key v W.drew m q := ⟨P.tb.drew, P.rf.below (below_drew (Below.refl _ W)), P.lt, P.c1, P.c2, P.ks⟩
theorem a_put (P : C1 w bt n rb ib io key v W m q) :
    Calls Try.prog 10 #[.pointer (some ⟨bt, 0, none⟩), .string key, .int .i64 v] W fun e w' => e = .returned (.int .i64 (putE m key)) ∧ Cq w' ib io key v ∧ Hid (C1 w bt n rb ib io key v w' (putM m key v) q) :=
  (put_T key v P.ks P.tb).mono fun _ _ ⟨he, T, F⟩ => by
    have P' : C1 w bt n rb ib io key v _ (putM m key v) q := ⟨T, P.rf.pfr F, P.lt, P.c1, P.c2, P.ks⟩
    exact ⟨he, P'.cs, P'⟩
theorem a_rput (P : C1 w bt n rb ib io key v W m q) (hq : q.length ≤ 64) :
    Calls Try.prog 20 #[.pointer (some ⟨rb, 0, none⟩), .string key, .int .i64 v] W fun e w' => e = .returned (.int .i64 (putE q key)) ∧ Cq w' ib io key v ∧ Hid (C1 w bt n rb ib io key v w' m (putM q key v)) :=
  (rput_any _ rb q key v hq W P.rf).mono fun _ _ ⟨he, R, F⟩ => by
    have P' : C1 w bt n rb ib io key v _ m (putM q key v) := ⟨P.tb.rfr F, R, P.lt, P.c1, P.c2, P.ks⟩
    exact ⟨he, P'.cs, P'⟩
theorem a_drop (P : C1 w bt n rb ib io key v W m q) :
    Calls Try.prog 9 #[.pointer (some ⟨bt, 0, none⟩), .string key] W fun e w' => e = .returned (.tuple #[.int .i64 (val m key), .int .i64 (dropE m key)]) ∧ Cq w' ib io key v ∧ Hid (C1 w bt n rb ib io key v w' (drop m key) q) :=
  (drop_T key P.ks P.tb).mono fun _ _ ⟨he, T, F⟩ => by
    have P' : C1 w bt n rb ib io key v _ (drop m key) q := ⟨T, P.rf.pfr F, P.lt, P.c1, P.c2, P.ks⟩
    exact ⟨he, P'.cs, P'⟩
theorem a_rdrop (P : C1 w bt n rb ib io key v W m q) (hq : q.length ≤ 64) :
    Calls Try.prog 21 #[.pointer (some ⟨rb, 0, none⟩), .string key] W fun e w' => e = .returned (.tuple #[.int .i64 (val q key), .int .i64 (dropE q key)]) ∧ Cq w' ib io key v ∧ Hid (C1 w bt n rb ib io key v w' m (drop q key)) :=
  (rdrop_any _ rb q key W P.rf hq).mono fun _ _ ⟨he, R, F⟩ => by
    have P' : C1 w bt n rb ib io key v _ m (drop q key) := ⟨P.tb.rfr F, R, P.lt, P.c1, P.c2, P.ks⟩
    exact ⟨he, P'.cs, P'⟩
theorem KS.put (h : KS m) (hk : key.size ≤ 9223372036854775807) : KS (putM m key v) := by
  intro p hp
  unfold putM at hp
  split at hp
  · exact h p hp
  · split at hp
    · rcases List.mem_append.1 hp with hp | hp
      · exact h p hp
      · simp at hp; rw [hp]; exact hk
    · exact h p hp
theorem KS.drop (h : KS m) : KS (drop m key) := fun p hp => h p (List.mem_of_mem_eraseP hp)
end
/-- What the law carries along while the look goes on. -/
structure LS (w : World) (bt n rb lb : Nat) (key : ByteArray) (v : Int) (W : World) (m : Pairs) (sv : Value) (seen : List Int) (al nv ov : Bool) (most : Int) (k j r : Nat) : Prop where
  pu : Pu key v m seen al nv
  sl : seen.length ≤ 81
  ml : m.length ≤ 64
  wh : (ov = false ∧ ∃ P st, Me w bt n rb lb key W m m P st sv seen ∧ Pp key seen al P st most k ∧ P.length + j ≤ r) ∨ (ov = true ∧ ∃ fd u st, Mo w rb lb key W m st fd u sv seen ∧ Po seen al fd u st most)
  b3 : most ≤ 66 + k
  b4 : 0 ≤ most
/-- .. between a call and what is written down of it. -/
structure L2 (w : World) (bt n rb lb : Nat) (key : ByteArray) (v : Int) (W : World) (m0 m : Pairs) (sv : Value) (seen : List Int) (al nv : Bool) (most : Int) (k : Nat) : Prop where
  pu : Pu key v m0 seen al nv
  me : ∃ P st, Me w bt n rb lb key W m m P st sv seen ∧ ∀ al' : Bool, (al' = true → al = true ∧ has m key = true) → Pp key (seenN seen m key) al' P st most (k + 1)
  b3 : most ≤ 66 + (k + 1 : Nat)
  b4 : 0 ≤ most
section
variable {w : World} {bt n rb lb ob : Nat} {key kk : ByteArray} {v x : Int} {W W' : World} {m m0 : Pairs} {sv sv' : Value} {seen : List Int} {al nv ov : Bool} {most : Int} {k j r : Nat}
theorem LS.bel (h : LS w bt n rb lb key v W m sv seen al nv ov most k j r) : Below w.heap.size w W := by
  rcases h.wh with ⟨_, P, st, M, _⟩ | ⟨_, _, _, _, M, _⟩
  · exact M.bel
  · exact M.bel
theorem LS.rf (h : LS w bt n rb lb key v W m sv seen al nv ov most k j r) : Rf w.heap.size W rb m := by
  rcases h.wh with ⟨_, P, st, M, _⟩ | ⟨_, _, _, _, M, _⟩
  · exact M.rf
  · exact M.rf
theorem LS.below (h : LS w bt n rb lb key v W m sv seen al nv ov most k j r) (b : Below W.heap.size W W') : LS w bt n rb lb key v W' m sv seen al nv ov most k j r := by
  refine ⟨h.pu, h.sl, h.ml, ?_, h.b3, h.b4⟩
  rcases h.wh with ⟨e, P, st, M, q⟩ | ⟨e, fd, u, st, M, q⟩
  · exact .inl ⟨e, P, st, M.below b, q⟩
  · exact .inr ⟨e, fd, u, st, M.below b, q⟩
theorem L2.below (h : L2 w bt n rb lb key v W m0 m sv seen al nv most k) (b : Below W.heap.size W W') : L2 w bt n rb lb key v W' m0 m sv seen al nv most k := by
  obtain ⟨P, st, M, q⟩ := h.me
  exact ⟨h.pu, ⟨P, st, M.below b, q⟩, h.b3, h.b4⟩
theorem L2.fin_no (h : L2 w bt n rb lb key v W m0 m sv seen al nv most k) (hs : seen.length ≤ 81) (hh : has m key = false) {al' nv' : Bool} (ha : al' = false) (hn : nv' = nv) : LS w bt n rb lb key v W m sv seen al' nv' false most (k + 1) 0 (64 + (k + 1)) := by
  obtain ⟨P, st, M, q⟩ := h.me
  have e : seenN seen m key = seen := by simp [seenN, hh]
  have pu := h.pu.next m (al' := al') (nv' := nv') (by rw [ha, hh]; simp) (by rw [hn, hh]; simp)
  have pp := q al' (by rw [ha]; simp)
  rw [e] at pu pp
  exact ⟨pu, hs, M.mlen, .inl ⟨rfl, P, st, M, pp, pp.b2⟩, h.b3, h.b4⟩
theorem L2.fin_yes (h : L2 w bt n rb lb key v W m0 m sv seen al nv most k) (hs : seen.length + 1 ≤ 81) (hh : has m key = true) {al' nv' : Bool} (ha : al' = (al && decide (val m key = v))) (hn : nv' = false) (g : KT (· = 2) W W') (b : Below w.heap.size w W') (s : W'.ownsRow w.heap.size 2 1 sv' (seen.length + 1) (ints seen ++ [.int .i64 (val m key)])) :
    LS w bt n rb lb key v W' m sv' (seen ++ [val m key]) al' nv' false most (k + 1) 0 (64 + (k + 1)) := by
  obtain ⟨P, st, M, q⟩ := h.me
  have e : seenN seen m key = seen ++ [val m key] := by simp [seenN, hh]
  have pu := h.pu.next m (al' := al') (nv' := nv') (by rw [ha, hh]; simp) (by rw [hn, hh]; simp)
  have pp := q al' (by rw [ha]; intro e; simp at e; exact ⟨e.1, hh⟩)
  rw [e] at pu pp
  exact ⟨pu, by simp; omega, M.mlen, .inl ⟨rfl, P, st, M.k2 g b (by simpa [ints] using s), pp, pp.b2⟩, h.b3, h.b4⟩
theorem b_put {P : List E} {st : Int} {ob : Nat} {kd : Int} (hp : Pp key seen al P st most k) (pu : Pu key v m seen al nv) (M : Hid (∃ P', Me w bt n rb lb key W (putM m kk x) m P' st sv seen ∧ PutR n key m kk x P P')) (O : Cz W ob kd kk x) (hq : m.length ≤ 64) :
    Calls Try.prog 20 #[.pointer (some ⟨rb, 0, none⟩), .string kk, .int .i64 x] W fun e w' => e = .returned (.int .i64 (putE m kk)) ∧ Hid (Cz w' ob kd kk x) ∧ Hid (L2 w bt n rb lb key v w' m (putM m kk x) sv seen al nv (mostN n key m kk most) k) := by
  obtain ⟨P', M, hr⟩ := M
  refine (l_rput M O hq).mono fun e w' ⟨he, O', M'⟩ => ⟨he, O', pu, ⟨P', st, M', fun al' ha => hp.put hr (Me.mnod M') fun e => (ha e).1⟩, ?_, ?_⟩
  · have := hp.b3; unfold mostN; split <;> omega
  · have := hp.i4; have := hp.b0; unfold mostN; split <;> omega
theorem b_drop {P : List E} {st : Int} {ob : Nat} {kd : Int} (hp : Pp key seen al P st most k) (pu : Pu key v m seen al nv) (hnod : (m.map (·.1)).Nodup) (M : Hid (∃ P', Me w bt n rb lb key W (drop m kk) m P' st sv seen ∧ DropR kk P P')) (O : Cz W ob kd kk x) (hq : m.length ≤ 64) :
    Calls Try.prog 21 #[.pointer (some ⟨rb, 0, none⟩), .string kk] W fun e w' => e = .returned (.tuple #[.int .i64 (val m kk), .int .i64 (dropE m kk)]) ∧ Hid (Cz w' ob kd kk x) ∧ Hid (L2 w bt n rb lb key v w' m (drop m kk) sv seen al nv most k) := by
  obtain ⟨P', M, hr⟩ := M
  refine (l_rdrop M O hq).mono fun e w' ⟨he, O', M'⟩ => ⟨he, O', pu, ⟨P', st, M', fun al' ha => hp.drop hr hnod ha⟩, ?_, ?_⟩
  · have := hp.b3; omega
  · have := hp.i4; have := hp.b0; omega
/-- A step of the look. -/
theorem b_step (h : LS w bt n rb lb key v W m sv seen al nv false most k j r) (hk : k ≤ 900) :
    Calls Try.prog 12 #[.pointer (some ⟨lb, 0, none⟩)] W fun e w' => ∃ ov : Bool, e = .returned (.bool ov) ∧ Hid (KT (· = 64) W w') ∧ Hid (LS w bt n rb lb key v w' m sv seen al nv ov most (k + 1) (j + 1) r) := by
  rcases h.wh with ⟨_, P, st, M, pp, hr⟩ | ⟨e, _⟩
  · refine (l_step M pp (by omega)).mono fun e w' ⟨ov, he, hk, hq⟩ => ⟨ov, he, hk, h.pu, h.sl, h.ml, ?_, by have := h.b3; omega, h.b4⟩
    rcases hq with ⟨e, P', M', pp', hl⟩ | ⟨e, fd, u, M', po⟩
    · exact .inl ⟨e, P', _, M', pp', by omega⟩
    · exact .inr ⟨e, fd, u, _, M', po⟩
  · cases e
theorem Pp.rise {P : List E} {st : Int} {k' : Nat} (h : Pp key seen al P st most k) (hk : k ≤ k') : Pp key seen al P st most k' :=
  ⟨h.i1, h.i2, h.i4, h.b0, by have := h.b1; omega, by have := h.b2; omega, by have := h.b3; omega⟩
theorem LS.relax {k' j' r' : Nat} (h : LS w bt n rb lb key v W m sv seen al nv ov most k j r) (hk : k ≤ k') (hj : r + j' ≤ r' + j) : LS w bt n rb lb key v W m sv seen al nv ov most k' j' r' := by
  refine ⟨h.pu, h.sl, h.ml, ?_, by have := h.b3; omega, h.b4⟩
  rcases h.wh with ⟨e, P, st, M, q1, q2⟩ | ⟨e, fd, u, st, M, q⟩
  · exact .inl ⟨e, P, st, M, q1.rise hk, by omega⟩
  · exact .inr ⟨e, fd, u, st, M, q⟩
/-- How an append to what was seen leaves the rest. -/
theorem kt_app {base : Nat} {L : Nat} {xs : List Value} {o : Array Value} (hO : (W.alloc (.cells o 2)).ownsRow base 2 1 sv L xs) (g : (W.alloc (.cells o 2)).grownBy W' sv.ownBlock) : KT (· = 2) W W' := by
  intro z cur t hz ht
  have hzA : (W.alloc (.cells o 2)).heap[z]? = some (.cells cur t (0, 0)) := (Below.heap_alloc _ _ _ (lt_of_heap hz)).trans hz
  rw [g.block z (lt_of_heap hzA) (own_ne hO hzA (by intro c e; simp at e; exact ht e.2)), hzA, hz]
end
end Go.Proofs.Ytbmcnfdciogmjaa
