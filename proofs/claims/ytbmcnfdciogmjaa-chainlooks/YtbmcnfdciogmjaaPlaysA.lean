/-
  The program's table and the document's own, side by side.
-/
import Derived.Test.YtbmcnfdciogmjaaRefG
import Derived.Test.YtbmcnfdciogmjaaRefE
import Derived.Test.YtbmcnfdciogmjaaKeys
namespace Go.Proofs.Ytbmcnfdciogmjaa
open Go.RowKit Go.Sort

theorem Rf.rebase {base base' : Nat} {W : World} {rb : Nat} {m : Pairs} (h : Rf base' W rb m) (hb : base ≤ base') : Rf base W rb m := by
  obtain ⟨a, cap, h1, h2⟩ := h.hb
  refine ⟨⟨a, cap, h1, ?_⟩, Nat.le_trans hb h.kb⟩
  obtain ⟨h0, h3 | ⟨g, cap, cur, h3, h4, h5⟩⟩ := h2
  · exact ⟨h0, .inl h3⟩
  · exact ⟨h0, .inr ⟨g, cap, cur, h3, Nat.le_trans hb h4, h5⟩⟩
/-- Both, and the call that is made. -/
structure CP (w : World) (bt n rb ob : Nat) (kd : Int) (key : ByteArray) (v : Int) (W : World) (m q : Pairs) : Prop where
  tb : Tbl w.heap.size w W bt n m
  rf : Rf w.heap.size W rb q
  bo : W.heap[ob]? = some (.cells #[.int .i64 kd, .string key, .int .i64 v] 43)
section
variable {w : World} {bt n rb ob : Nat} {kd : Int} {key : ByteArray} {v : Int} {W W' : World} {m q m' q' : Pairs}
theorem Tbl.mlen {base : Nat} {w0 W : World} (h : Tbl base w0 W bt n m) : m.length ≤ 64 := by
  obtain ⟨_, _, hT, _⟩ := h
  exact hT.mlen
theorem Tbl.rfr {base : Nat} {w0 W W' : World} (h : Tbl base w0 W bt n m) (F : RFr base W W') : Tbl base w0 W' bt n m := by
  obtain ⟨bh, ch, hT, hB⟩ := h
  exact ⟨bh, ch, hT.rfr F, hB.trans F.bel⟩
abbrev Cs (W : World) (ob : Nat) (key : ByteArray) (v : Int) : Prop := W.cell? ⟨ob, 1, none⟩ = some (.string key) ∧ W.cell? ⟨ob, 2, none⟩ = some (.int .i64 v)
theorem CP.cs (P : CP w bt n rb ob kd key v W m q) : Cs W ob key v := ⟨by rw [cell_of P.bo]; rfl, by rw [cell_of P.bo]; rfl⟩
theorem CP.below (P : CP w bt n rb ob kd key v W m q) (B : Below W.heap.size W W') : CP w bt n rb ob kd key v W' m q := ⟨P.tb.below B, P.rf.below B, (B.block _ (lt_of_heap P.bo)).trans P.bo⟩
theorem CP.drew (P : CP w bt n rb ob kd key v W m q) : CP w bt n rb ob kd key v W.drew m q := P.below (below_drew (Below.refl _ W))
theorem CP.opT (P : CP w bt n rb ob kd key v W m q) (T : Tbl w.heap.size w W' bt n m') (F : PFr W W') : CP w bt n rb ob kd key v W' m' q := ⟨T, P.rf.pfr F, (F.2 _ _ _ P.bo (by decide) (by decide)).trans P.bo⟩
theorem CP.opR (P : CP w bt n rb ob kd key v W m q) (R : Rf w.heap.size W' rb q') (F : RFr w.heap.size W W') : CP w bt n rb ob kd key v W' m q' := ⟨P.tb.rfr F, R, (F.oth _ _ _ P.bo (by decide) (by decide)).trans P.bo⟩

theorem q_put (P : CP w bt n rb ob kd key v W m q) (hs : key.size ≤ 9223372036854775807) :
    Calls Try.prog 10 #[.pointer (some ⟨bt, 0, none⟩), .string key, .int .i64 v] W fun e w' => e = .returned (.int .i64 (putE m key)) ∧ Cs w' ob key v ∧ Hid (CP w bt n rb ob kd key v w' (putM m key v) q) :=
  (put_T key v hs P.tb).mono fun _ _ ⟨he, T, F⟩ => ⟨he, (P.opT T F).cs, P.opT T F⟩
theorem q_rput (P : CP w bt n rb ob kd key v W m q) (hq : q.length ≤ 64) :
    Calls Try.prog 20 #[.pointer (some ⟨rb, 0, none⟩), .string key, .int .i64 v] W fun e w' => e = .returned (.int .i64 (putE q key)) ∧ Cs w' ob key v ∧ Hid (CP w bt n rb ob kd key v w' m (putM q key v)) :=
  (rput_any _ rb q key v hq W P.rf).mono fun _ _ ⟨he, R, F⟩ => ⟨he, (P.opR R F).cs, P.opR R F⟩
theorem q_drop (P : CP w bt n rb ob kd key v W m q) (hs : key.size ≤ 9223372036854775807) :
    Calls Try.prog 9 #[.pointer (some ⟨bt, 0, none⟩), .string key] W fun e w' => e = .returned (.tuple #[.int .i64 (val m key), .int .i64 (dropE m key)]) ∧ Cs w' ob key v ∧ Hid (CP w bt n rb ob kd key v w' (drop m key) q) :=
  (drop_T key hs P.tb).mono fun _ _ ⟨he, T, F⟩ => ⟨he, (P.opT T F).cs, P.opT T F⟩
theorem q_rdrop (P : CP w bt n rb ob kd key v W m q) (hq : q.length ≤ 64) :
    Calls Try.prog 21 #[.pointer (some ⟨rb, 0, none⟩), .string key] W fun e w' => e = .returned (.tuple #[.int .i64 (val q key), .int .i64 (dropE q key)]) ∧ Cs w' ob key v ∧ Hid (CP w bt n rb ob kd key v w' m (drop q key)) :=
  (rdrop_any _ rb q key W P.rf hq).mono fun _ _ ⟨he, R, F⟩ => ⟨he, (P.opR R F).cs, P.opR R F⟩
theorem q_get (P : CP w bt n rb ob kd key v W m q) (hs : key.size ≤ 9223372036854775807) :
    Calls Try.prog 22 #[.pointer (some ⟨bt, 0, none⟩), .string key] W fun e w' => e = .returned (.tuple #[.int .i64 (val m key), .bool (has m key)]) ∧ Cs w' ob key v ∧ Hid (CP w bt n rb ob kd key v w' m q) :=
  (get_T key hs P.tb).mono fun _ _ ⟨he, _, B⟩ => ⟨he, (P.below B).cs, P.below B⟩
theorem q_rget (P : CP w bt n rb ob kd key v W m q) (hq : q.length ≤ 64) :
    Calls Try.prog 23 #[.pointer (some ⟨rb, 0, none⟩), .string key] W fun e w' => e = .returned (.tuple #[.int .i64 (val q key), .bool (has q key)]) ∧ Cs w' ob key v ∧ Hid (CP w bt n rb ob kd key v w' m q) :=
  (rget_any _ rb q key hq W P.rf).mono fun _ _ ⟨he, B⟩ => ⟨he, (P.below B).cs, P.below B⟩
end
end Go.Proofs.Ytbmcnfdciogmjaa
