/-
  The table, the document's own, a look that is under way and what was seen: each call by one contract.
-/
import Derived.Test.YtbmcnfdciogmjaaLkB
namespace Go.Proofs.Ytbmcnfdciogmjaa
open Go.RowKit Go.Sort
attribute [local go_sem ↓] Go.wp_at_zero Go.wp_at_succ

def ints (l : List Int) : List Value := l.map (Value.int .i64)
structure Mc (w : World) (bt bh n : Nat) (ch : Nat → List E) (rb lb : Nat) (key : ByteArray) (x : E) (W : World) (m q : Pairs) (P : List E) (st : Int) (sv : Value) (seen : List Int) : Prop where
  tb : Tb w.heap.size W bt bh n ch m
  bel : Below w.heap.size w W
  rf : Rf w.heap.size W rb q
  lk : Lk W lb key x st false false 0
  vi : Vi W bt bh n ch (slotOf n key) x P
  sr : W.ownsRow w.heap.size 2 1 sv seen.length (ints seen)
  klb : w.heap.size ≤ lb
def Me (w : World) (bt n rb lb : Nat) (key : ByteArray) (W : World) (m q : Pairs) (P : List E) (st : Int) (sv : Value) (seen : List Int) : Prop := ∃ bh ch x, Mc w bt bh n ch rb lb key x W m q P st sv seen
/-- The look is over. -/
structure Mo (w : World) (rb lb : Nat) (key : ByteArray) (W : World) (q : Pairs) (st : Int) (fd : Bool) (u : Int) (sv : Value) (seen : List Int) : Prop where
  bel : Below w.heap.size w W
  rf : Rf w.heap.size W rb q
  lk : ∃ x, Lk W lb key x st true fd u
  sr : W.ownsRow w.heap.size 2 1 sv seen.length (ints seen)
  klb : w.heap.size ≤ lb
/-- Blocks but those of some types keep what they hold. -/
def KT (T : TypeId → Prop) (W W' : World) : Prop := ∀ (k : Nat) (cur : Array Value) (t : TypeId), W.heap[k]? = some (.cells cur t (0, 0)) → ¬ T t → W'.heap[k]? = W.heap[k]?
def Cz (W : World) (ob : Nat) (kd : Int) (k : ByteArray) (v : Int) : Prop := W.heap[ob]? = some (.cells #[.int .i64 kd, .string k, .int .i64 v] 43)
theorem Cz.kt {T : TypeId → Prop} {W W' : World} {ob : Nat} {kd : Int} {k : ByteArray} {v : Int} (h : Cz W ob kd k v) (g : KT T W W') (ht : ¬ T 43) : Cz W' ob kd k v := (g _ _ _ h ht).trans h
theorem Cz.cs {W : World} {ob : Nat} {kd : Int} {k : ByteArray} {v : Int} (h : Cz W ob kd k v) : W.cell? ⟨ob, 0, none⟩ = some (.int .i64 kd) ∧ W.cell? ⟨ob, 1, none⟩ = some (.string k) ∧ W.cell? ⟨ob, 2, none⟩ = some (.int .i64 v) :=
  ⟨by rw [cell_of h]; rfl, by rw [cell_of h]; rfl, by rw [cell_of h]; rfl⟩
section
variable {w : World} {bt n rb lb ob : Nat} {kd : Int} {key k : ByteArray} {v : Int} {W W' : World} {m q : Pairs} {P : List E} {st : Int} {sv sv' : Value} {seen seen' : List Int}
theorem KT.of_below {T : TypeId → Prop} (h : Below W.heap.size W W') : KT T W W' := fun k _ _ hk _ => h.block k (lt_of_heap hk)
theorem Me.size (M : Me w bt n rb lb key W m q P st sv seen) : w.heap.size ≤ W.heap.size := by
  obtain ⟨bh, ch, x, M⟩ := M
  exact M.bel.size
theorem Me.mlen (M : Me w bt n rb lb key W m q P st sv seen) : m.length ≤ 64 := by
  obtain ⟨bh, ch, x, M⟩ := M
  exact M.tb.mlen
theorem Me.mnod (M : Me w bt n rb lb key W m q P st sv seen) : (m.map (·.1)).Nodup := by
  obtain ⟨bh, ch, x, M⟩ := M
  exact M.tb.mnod
theorem Me.bel (M : Me w bt n rb lb key W m q P st sv seen) : Below w.heap.size w W := by
  obtain ⟨bh, ch, x, M⟩ := M
  exact M.bel
theorem Me.sr (M : Me w bt n rb lb key W m q P st sv seen) : W.ownsRow w.heap.size 2 1 sv seen.length (ints seen) := by
  obtain ⟨bh, ch, x, M⟩ := M
  exact M.sr
/-- All but what was seen stands as it stood. -/
theorem Me.k2 (M : Me w bt n rb lb key W m q P st sv seen) (g : KT (· = 2) W W') (b : Below w.heap.size w W') (s : W'.ownsRow w.heap.size 2 1 sv' seen'.length (ints seen')) : Me w bt n rb lb key W' m q P st sv' seen' := by
  obtain ⟨bh, ch, x, M⟩ := M
  refine ⟨bh, ch, x, ⟨M.tb.keep fun z hz => ?_, b, M.rf.keep fun z c t hz ht => g z c t hz (by rcases ht with rfl | rfl <;> decide), ⟨(g _ _ _ M.lk.hb (by decide)).trans M.lk.hb⟩, M.vi.keep M.tb (slot_lt M.tb.lo key) (fun z cs hz => g _ _ _ hz (by decide)), s, M.klb⟩⟩
  rcases hz with rfl | hz
  · exact g _ _ _ M.tb.hb (by decide)
  · obtain ⟨cs, hcs⟩ := M.tb.ty z hz
    exact g _ _ _ hcs (by decide)
theorem Me.below (M : Me w bt n rb lb key W m q P st sv seen) (b : Below W.heap.size W W') : Me w bt n rb lb key W' m q P st sv seen :=
  M.k2 (.of_below b) (M.bel.trans (b.mono M.size)) (own_keep M.sr fun k _ hk => b.block k (lt_of_heap hk))
theorem Mo.below {fd : Bool} {u : Int} (M : Mo w rb lb key W q st fd u sv seen) (b : Below W.heap.size W W') : Mo w rb lb key W' q st fd u sv seen := by
  obtain ⟨x, hx⟩ := M.lk
  exact ⟨M.bel.trans (b.mono M.bel.size), M.rf.below b, ⟨x, hx.below b⟩, own_keep M.sr fun k _ hk => b.block k (lt_of_heap hk), M.klb⟩
theorem l_put (M : Me w bt n rb lb key W m q P st sv seen) (O : Cz W ob kd k v) (hs : k.size ≤ 9223372036854775807) :
    Calls Try.prog 10 #[.pointer (some ⟨bt, 0, none⟩), .string k, .int .i64 v] W fun e w' => e = .returned (.int .i64 (putE m k)) ∧ Hid (Cz w' ob kd k v) ∧ Hid (∃ P', Me w bt n rb lb key w' (putM m k v) q P' st sv seen ∧ PutR n key m k v P P') := by
  have M0 := M
  obtain ⟨bh, ch, x, M⟩ := M
  unfold putE putM
  cases hh : has m k with
  | true => exact (put_busy _ bt bh n ch m k v hs W M.tb hh).mono fun e w' ⟨he, hB⟩ => ⟨he, O.kt (T := fun _ => False) (.of_below hB) (by simp), P, M0.below hB, .inl rfl⟩
  | false =>
    by_cases hm : m.length < 64
    · simp only [hm, if_true, Bool.false_eq_true, if_false]
      refine (put_in _ bt bh n ch m k v hs W M.tb hh hm _ rfl).mono fun e w' ⟨he, N, hN, hT, hF⟩ => ?_
      have hmv : Mv W w' bt bh n ch ch := ⟨⟨_, hF, by
        intro p hp
        simp at hp
        rcases hp with rfl | rfl
        · exact .inr (.inl rfl)
        · exact .inl rfl⟩, fun _ h => .inl h⟩
      have hpf := hmv.pfr M.tb
      obtain ⟨P', hV, hP⟩ := M.vi.put M.tb (slot_lt M.tb.lo key) (slot_lt M.tb.lo k) hN hT hF
      refine ⟨he, (hpf.2 _ _ _ O (by decide) (by decide)).trans O, P', ⟨bh, _, x, ⟨hT, hmv.below M.tb M.bel, M.rf.pfr hpf, ⟨(hpf.2 _ _ _ M.lk.hb (by decide) (by decide)).trans M.lk.hb⟩, hV, own_keep M.sr fun z _ hz => hpf.2 _ _ _ hz (by decide) (by decide), M.klb⟩⟩, ?_⟩
      rcases hP with hP | ⟨h1, h2⟩
      · exact .inl hP
      · exact .inr ⟨by simp [putE, hh, hm], h1, h2⟩
    · simp only [hm, if_false, Bool.false_eq_true]
      exact (put_full _ bt bh n ch m k v hs W M.tb hh hm).mono fun e w' ⟨he, hB⟩ => ⟨he, O.kt (T := fun _ => False) (.of_below hB) (by simp), P, M0.below hB, .inl rfl⟩
theorem l_drop (M : Me w bt n rb lb key W m q P st sv seen) (O : Cz W ob kd k v) (hs : k.size ≤ 9223372036854775807) :
    Calls Try.prog 9 #[.pointer (some ⟨bt, 0, none⟩), .string k] W fun e w' => e = .returned (.tuple #[.int .i64 (val m k), .int .i64 (dropE m k)]) ∧ Hid (Cz w' ob kd k v) ∧ Hid (∃ P', Me w bt n rb lb key w' (drop m k) q P' st sv seen ∧ DropR k P P') := by
  have M0 := M
  obtain ⟨bh, ch, x, M⟩ := M
  unfold dropE
  cases hh : has m k with
  | false =>
    rw [val_none hh, drop_none hh]
    exact (drop_no _ bt bh n ch m k hs W M.tb hh).mono fun e w' ⟨he, hB⟩ => ⟨he, O.kt (T := fun _ => False) (.of_below hB) (by simp), P, M0.below hB, DropR.refl _ _⟩
  | true =>
    refine (drop_in _ bt bh n ch m k hs W M.tb hh _ rfl).mono fun e w' ⟨he, A, d, B, p, hc, hd, hp, hT, hF⟩ => ?_
    have hmv : Mv W w' bt bh n ch ch := ⟨⟨_, hF, by
      intro z hz
      simp at hz
      have := (M.tb.pd (slot_lt M.tb.lo k) hc hp).2.2
      rcases hz with rfl | rfl
      · exact M.tb.own_mem (slot_lt M.tb.lo k) this
      · exact .inl rfl⟩, fun _ h => .inl h⟩
    have hpf := hmv.pfr M.tb
    obtain ⟨P', hV, hP⟩ := M.vi.drop M.tb (slot_lt M.tb.lo key) (slot_lt M.tb.lo k) hc hd hp (fun u hu => ((mem_drop M.tb.mnod).1 hu).2 rfl) hT hF
    exact ⟨he, (hpf.2 _ _ _ O (by decide) (by decide)).trans O, P', ⟨bh, _, x, ⟨hT, hmv.below M.tb M.bel, M.rf.pfr hpf, ⟨(hpf.2 _ _ _ M.lk.hb (by decide) (by decide)).trans M.lk.hb⟩, hV, own_keep M.sr fun z _ hz => hpf.2 _ _ _ hz (by decide) (by decide), M.klb⟩⟩, hP⟩
theorem Me.rfr {q' : Pairs} (M : Me w bt n rb lb key W m q P st sv seen) (R : Rf w.heap.size W' rb q') (F : RFr w.heap.size W W') : Me w bt n rb lb key W' m q' P st sv seen := by
  obtain ⟨bh, ch, x, M⟩ := M
  exact ⟨bh, ch, x, ⟨M.tb.rfr F, M.bel.trans F.bel, R, ⟨(F.oth _ _ _ M.lk.hb (by decide) (by decide)).trans M.lk.hb⟩, M.vi.keep M.tb (slot_lt M.tb.lo key) (fun z cs hz => F.oth _ _ _ hz (by decide) (by decide)), own_keep M.sr fun z _ hz => F.oth _ _ _ hz (by decide) (by decide), M.klb⟩⟩
theorem Me.rf (M : Me w bt n rb lb key W m q P st sv seen) : Rf w.heap.size W rb q := by
  obtain ⟨bh, ch, x, M⟩ := M
  exact M.rf
theorem l_rput (M : Me w bt n rb lb key W m q P st sv seen) (O : Cz W ob kd k v) (hq : q.length ≤ 64) :
    Calls Try.prog 20 #[.pointer (some ⟨rb, 0, none⟩), .string k, .int .i64 v] W fun e w' => e = .returned (.int .i64 (putE q k)) ∧ Hid (Cz w' ob kd k v) ∧ Hid (Me w bt n rb lb key w' m (putM q k v) P st sv seen) :=
  (rput_any _ rb q k v hq W M.rf).mono fun _ _ ⟨he, R, F⟩ => ⟨he, (F.oth _ _ _ O (by decide) (by decide)).trans O, M.rfr R F⟩
theorem l_rdrop (M : Me w bt n rb lb key W m q P st sv seen) (O : Cz W ob kd k v) (hq : q.length ≤ 64) :
    Calls Try.prog 21 #[.pointer (some ⟨rb, 0, none⟩), .string k] W fun e w' => e = .returned (.tuple #[.int .i64 (val q k), .int .i64 (dropE q k)]) ∧ Hid (Cz w' ob kd k v) ∧ Hid (Me w bt n rb lb key w' m (drop q k) P st sv seen) :=
  (rdrop_any _ rb q k W M.rf hq).mono fun _ _ ⟨he, R, F⟩ => ⟨he, (F.oth _ _ _ O (by decide) (by decide)).trans O, M.rfr R F⟩
theorem l_step {al : Bool} {most : Int} {r : Nat} (M : Me w bt n rb lb key W m q P st sv seen) (hp : Pp key seen al P st most r) (hr : r ≤ 1000) :
    Calls Try.prog 12 #[.pointer (some ⟨lb, 0, none⟩)] W fun e w' => ∃ ov : Bool, e = .returned (.bool ov) ∧ Hid (KT (· = 64) W w') ∧ Hid ((ov = false ∧ ∃ P', Me w bt n rb lb key w' m q P' (st + 1) sv seen ∧ Pp key seen al P' (st + 1) most (r + 1) ∧ P'.length + 1 ≤ P.length) ∨
      (ov = true ∧ ∃ fd u, Mo w rb lb key w' q (st + 1) fd u sv seen ∧ Po seen al fd u (st + 1) most)) := by
  obtain ⟨bh, ch, x, M⟩ := M
  have hsl := slot_lt M.tb.lo key
  have hty := M.vi.ty M.tb hsl
  have hpa : Path W (x :: P) := by obtain ⟨_, _, _, _, _, h, _⟩ := M.vi; exact h
  refine (step_any lb key x P st W M.lk hpa (fun y hy e => ?_) hp.b0 (by have := hp.b1; omega)).mono fun e w' ⟨he, hL, hF⟩ => ?_
  · obtain ⟨cs, hcs⟩ := hty y hy
    rw [e, M.lk.hb] at hcs
    simp at hcs
  · have hkt : KT (· = 64) W w' := by
      intro z cur t hz ht
      refine hF.blk z (lt_of_heap hz) fun i => lkS_ne ?_
      rintro rfl
      rw [M.lk.hb] at hz
      simp at hz
      exact ht hz.2.symm
    have hB : Below w.heap.size w w' := Fr.below M.bel hF M.bel.size (by intro p hp; have := M.klb; simp at hp; rcases hp with rfl | rfl | rfl | rfl | rfl <;> exact this)
    have hR : Rf w.heap.size w' rb q := M.rf.keep fun z c t hz ht => hkt z c t hz (by rcases ht with rfl | rfl <;> decide)
    have hS := own_keep (W' := w') M.sr fun z _ hz => hkt _ _ _ hz (by decide)
    refine ⟨_, he, hkt, ?_⟩
    cases P with
    | nil => exact .inr ⟨rfl, false, 0, ⟨hB, hR, ⟨x, hL⟩, hS, M.klb⟩, hp.over_nil⟩
    | cons y P =>
      by_cases hy : y.key = key
      · simp only [go, hy, if_true] at hL ⊢
        exact .inr ⟨trivial, true, y.val, ⟨hB, hR, ⟨x, hL⟩, hS, M.klb⟩, hp.over_key hy⟩
      · simp only [go, hy, if_false] at hL ⊢
        refine .inl ⟨trivial, P, ⟨bh, ch, y, ⟨M.tb.keep fun z hz => ?_, hB, hR, hL, M.vi.step.keep M.tb hsl (fun z cs hz => hkt _ _ _ hz (by decide)), hS, M.klb⟩⟩, hp.step hy, by simp⟩
        rcases hz with rfl | hz
        · exact hkt _ _ _ M.tb.hb (by decide)
        · obtain ⟨cs, hcs⟩ := M.tb.ty z hz
          exact hkt _ _ _ hcs (by decide)
theorem l_look (T : Tbl w.heap.size w W bt n m) (R : Rf w.heap.size W rb q) (hs : key.size ≤ 9223372036854775807) :
    Calls Try.prog 11 #[.pointer (some ⟨bt, 0, none⟩), .string key] W fun e w' => ∃ lb, e = .returned (.pointer (some ⟨lb, 0, none⟩)) ∧ Hid (∃ P, Me w bt n rb lb key w' m q P 0 (.slice none 0 0) [] ∧ Pu key (val m key) m (seenN [] m key) (has m key) (!has m key) ∧ Pp key (seenN [] m key) (has m key) P 0 ((cntP n (slotOf n key) m : Nat) + 2) 0) := by
  obtain ⟨bh, ch, T, B⟩ := T
  have hsl := slot_lt T.lo key
  have hcl := T.cnt hsl
  have hc2 := cnt_le n (slotOf n key) m
  have hml := T.mlen
  refine (look_any _ bt bh n ch m key hs W T).mono fun e w' ⟨lb, he, hlb, hL, hB⟩ => ⟨lb, he, ch (slotOf n key), ⟨bh, ch, _, ⟨T.below hB, B.trans (hB.mono B.size), R.below hB, hL, Vi.start (T.below hB) hsl, World.ownsRow_nil _ _ _ _, Nat.le_trans B.size hlb⟩⟩, ⟨?_, ?_, ?_⟩, ⟨?_, ?_, by omega, by omega, by omega, by omega, by omega⟩⟩
  · intro e u hu
    rw [seenN, if_pos e] at hu
    simpa using hu
  · intro e
    rw [seenN, if_neg (by simpa using e)]
  · intro e
    rw [seenN, if_pos e]; simp
  · intro y hy hk
    have hmem : (key, y.val) ∈ m := (T.mem _ _).2 ⟨y, hy, hk, rfl⟩
    have hh : has m key = true := has_iff.2 ⟨_, hmem⟩
    rw [seenN, if_pos hh, nodup_val T.mnod hmem (val_mem hh)]
    simp
  · intro hh
    obtain ⟨y, hy, hk, _⟩ := (T.mem _ _).1 (val_mem hh)
    exact ⟨y, hy, hk⟩
end
end Go.Proofs.Ytbmcnfdciogmjaa
