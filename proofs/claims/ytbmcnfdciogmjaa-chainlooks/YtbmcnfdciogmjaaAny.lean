/-
  A table as a law sees it: a plain list of keys and numbers; each call by one contract. What known answers.
-/
import Derived.Test.YtbmcnfdciogmjaaOps
namespace Go.Proofs.Ytbmcnfdciogmjaa
open Go.RowKit
attribute [local go_sem ↓] Go.wp_at_zero Go.wp_at_succ

def putM (m : Pairs) (k : ByteArray) (v : Int) : Pairs := if has m k then m else if m.length < 64 then m ++ [(k, v)] else m
def putE (m : Pairs) (k : ByteArray) : Int := if has m k then 15 else if m.length < 64 then 0 else 13
def dropE (m : Pairs) (k : ByteArray) : Int := if has m k then 0 else 14
theorem drop_none {m : Pairs} {k : ByteArray} (h : has m k = false) : drop m k = m := by
  unfold drop
  apply List.eraseP_of_forall_not
  intro p hp
  rw [decide_eq_true_eq]
  intro e
  exact has_false.1 h p.2 (by rw [← e]; exact hp)

/-- Blocks of other types than a table's keep what they hold. -/
def PFr (w w' : World) : Prop := w.heap.size ≤ w'.heap.size ∧ ∀ (k : Nat) (cur : Array Value) (t : TypeId), w.heap[k]? = some (.cells cur t (0, 0)) → t ≠ 59 → t ≠ 62 → w'.heap[k]? = w.heap[k]?
theorem PFr.refl (w : World) : PFr w w := ⟨Nat.le_refl _, fun _ _ _ _ _ _ => rfl⟩
theorem PFr.of_below {w w' : World} (h : Below w.heap.size w w') : PFr w w' := ⟨h.size, fun k _ _ hk _ _ => h.block k (lt_of_heap hk)⟩
theorem PFr.trans {u v w : World} (h : PFr u v) (g : PFr v w) : PFr u w := ⟨Nat.le_trans h.1 g.1, fun k cur t hk h1 h2 => by
  have := h.2 k cur t hk h1 h2
  exact (g.2 k cur t (this.trans hk) h1 h2).trans this⟩
theorem PFr.drew {u v : World} (h : PFr u v) : PFr u v.drew := h
/-- How a table's call may leave the world: it wrote into the table's own blocks alone, and took new ones. -/
structure Mv (w w' : World) (bt bh n : Nat) (ch ch' : Nat → List E) : Prop where
  fr : ∃ S, Fr S w w' ∧ ∀ p ∈ S, Own bt bh n ch p.1
  own : ∀ k, Own bt bh n ch' k → Own bt bh n ch k ∨ w.heap.size ≤ k
theorem Mv.of_below {w w' : World} {bt bh n : Nat} {ch : Nat → List E} (h : Below w.heap.size w w') : Mv w w' bt bh n ch ch := ⟨⟨[], .of_below h, by simp⟩, fun _ hk => .inl hk⟩
section
variable {base : Nat} {w w' : World} {bt bh n : Nat} {ch ch' : Nat → List E} {m : Pairs}
theorem Mv.below {w0 : World} (h : Mv w w' bt bh n ch ch') (t : Tb base w bt bh n ch m) (g : Below base w0 w) : Below base w0 w' := by
  obtain ⟨S, hS, ho⟩ := h.fr
  exact Fr.below g hS (by have := t.kt; have := t.own_lt (k := bt) (.inl rfl); omega) fun p hp => t.own_base (ho p hp)
theorem Mv.pfr (h : Mv w w' bt bh n ch ch') (t : Tb base w bt bh n ch m) : PFr w w' := by
  obtain ⟨S, hS, ho⟩ := h.fr
  refine ⟨hS.size, fun k cur ty hk h1 h2 => hS.blk k (lt_of_heap hk) fun i hi => ?_⟩
  rcases ho _ hi with e | hk2
  · simp only at e; rw [e, t.hb] at hk; simp at hk; exact h1 hk.2.symm
  · obtain ⟨cs, hcs⟩ := t.ty k hk2
    rw [hcs] at hk; simp at hk; exact h2 hk.2.symm
end

set_option maxHeartbeats 400000 in
theorem put_any (base bt bh n : Nat) (ch : Nat → List E) (m : Pairs) (key : ByteArray) (v : Int) (hs : key.size ≤ 9223372036854775807) (w : World) (h : Tb base w bt bh n ch m) :
    Calls Try.prog 10 #[.pointer (some ⟨bt, 0, none⟩), .string key, .int .i64 v] w fun e w' => e = .returned (.int .i64 (putE m key)) ∧ ∃ ch', Tb base w' bt bh n ch' (putM m key v) ∧ Mv w w' bt bh n ch ch' := by
  unfold putE putM
  cases hh : has m key with
  | true => exact (put_busy base bt bh n ch m key v hs w h hh).mono fun e w' ⟨he, hB⟩ => ⟨he, ch, h.below hB, .of_below hB⟩
  | false =>
    by_cases hm : m.length < 64
    · simp only [hm, if_true, Bool.false_eq_true, if_false]
      refine (put_in base bt bh n ch m key v hs w h hh hm _ rfl).mono fun e w' ⟨he, N, hN, hT, hF⟩ => ⟨he, _, hT, ⟨⟨_, hF, ?_⟩, ?_⟩⟩
      · intro p hp
        simp at hp
        rcases hp with rfl | rfl
        · exact .inr (.inl rfl)
        · exact .inl rfl
      · rintro k (hk | hk | ⟨i, hi, x, hx, hk⟩)
        · exact .inl (.inl hk)
        · exact .inl (.inr (.inl hk))
        · by_cases hij : i = slotOf n key
          · rw [hij, upd_same] at hx
            rcases List.mem_cons.1 hx with rfl | hx
            · exact .inr (by rw [← hk]; exact hN)
            · exact .inl (.inr (.inr ⟨_, slot_lt h.lo key, x, hx, hk⟩))
          · rw [upd_ne _ _ hij] at hx
            exact .inl (.inr (.inr ⟨i, hi, x, hx, hk⟩))
    · simp only [hm, if_false, Bool.false_eq_true]
      exact (put_full base bt bh n ch m key v hs w h hh hm).mono fun e w' ⟨he, hB⟩ => ⟨he, ch, h.below hB, .of_below hB⟩
set_option maxHeartbeats 400000 in
theorem drop_any (base bt bh n : Nat) (ch : Nat → List E) (m : Pairs) (key : ByteArray) (hs : key.size ≤ 9223372036854775807) (w : World) (h : Tb base w bt bh n ch m) :
    Calls Try.prog 9 #[.pointer (some ⟨bt, 0, none⟩), .string key] w fun e w' => e = .returned (.tuple #[.int .i64 (val m key), .int .i64 (dropE m key)]) ∧ ∃ ch', Tb base w' bt bh n ch' (drop m key) ∧ Mv w w' bt bh n ch ch' := by
  unfold dropE
  cases hh : has m key with
  | false =>
    rw [val_none hh, drop_none hh]
    exact (drop_no base bt bh n ch m key hs w h hh).mono fun e w' ⟨he, hB⟩ => ⟨he, ch, h.below hB, .of_below hB⟩
  | true =>
    refine (drop_in base bt bh n ch m key hs w h hh _ rfl).mono fun e w' ⟨he, A, d, B, p, hc, hd, hp, hT, hF⟩ => ⟨he, _, hT, ⟨⟨_, hF, ?_⟩, ?_⟩⟩
    · intro q hq
      simp at hq
      have := (h.pd (slot_lt h.lo key) hc hp).2.2
      rcases hq with rfl | rfl
      · rcases List.mem_cons.1 this with e | e
        · exact .inr (.inl (by rw [e]; rfl))
        · exact .inr (.inr ⟨_, slot_lt h.lo key, p, e, rfl⟩)
      · exact .inl rfl
    · rintro k (hk | hk | ⟨i, hi, x, hx, hk⟩)
      · exact .inl (.inl hk)
      · exact .inl (.inr (.inl hk))
      · by_cases hij : i = slotOf n key
        · rw [hij, upd_same] at hx
          refine .inl (.inr (.inr ⟨_, slot_lt h.lo key, x, ?_, hk⟩))
          rw [hc]; simp at hx ⊢; rcases hx with hx | hx <;> simp [hx]
        · rw [upd_ne _ _ hij] at hx
          exact .inl (.inr (.inr ⟨i, hi, x, hx, hk⟩))

/-- The law's table. -/
def Tbl (base : Nat) (w0 W : World) (bt n : Nat) (m : Pairs) : Prop := ∃ bh ch, Tb base W bt bh n ch m ∧ Below base w0 W
theorem Tbl.below {base : Nat} {w0 W W' : World} {bt n : Nat} {m : Pairs} (h : Tbl base w0 W bt n m) (g : Below W.heap.size W W') : Tbl base w0 W' bt n m := by
  obtain ⟨bh, ch, hT, hB⟩ := h
  exact ⟨bh, ch, hT.below g, hB.trans (g.mono (by have := hT.kt; have := hT.own_lt (k := bt) (.inl rfl); omega))⟩
theorem Tbl.drew {base : Nat} {w0 W : World} {bt n : Nat} {m : Pairs} (h : Tbl base w0 W bt n m) : Tbl base w0 W.drew bt n m := h.below (below_drew (Below.refl _ W))
theorem Tbl.dn {base : Nat} {w0 W : World} {bt n : Nat} {m : Pairs} (h : Tbl base w0 W bt n m) (k : Nat) : Tbl base w0 (W.drewN k) bt n m := h.below (below_dn (Below.refl _ W) k)
theorem Tbl.bel {base : Nat} {w0 W : World} {bt n : Nat} {m : Pairs} (h : Tbl base w0 W bt n m) : Below base w0 W := by
  obtain ⟨_, _, _, hB⟩ := h
  exact hB
theorem Tbl.base_le {base : Nat} {w0 W : World} {bt n : Nat} {m : Pairs} (h : Tbl base w0 W bt n m) : base ≤ W.heap.size := by
  obtain ⟨bh, ch, hT, hB⟩ := h
  have := hT.kt; have := hT.own_lt (k := bt) (.inl rfl); omega
theorem put_T {base : Nat} {w0 w : World} {bt n : Nat} {m : Pairs} (key : ByteArray) (v : Int) (hs : key.size ≤ 9223372036854775807) (h : Tbl base w0 w bt n m) :
    Calls Try.prog 10 #[.pointer (some ⟨bt, 0, none⟩), .string key, .int .i64 v] w fun e w' => e = .returned (.int .i64 (putE m key)) ∧ Tbl base w0 w' bt n (putM m key v) ∧ PFr w w' := by
  obtain ⟨bh, ch, hT, hB⟩ := h
  exact (put_any base bt bh n ch m key v hs w hT).mono fun e w' ⟨he, ch', hT', hM⟩ => ⟨he, ⟨bh, ch', hT', hM.below hT hB⟩, hM.pfr hT⟩
theorem drop_T {base : Nat} {w0 w : World} {bt n : Nat} {m : Pairs} (key : ByteArray) (hs : key.size ≤ 9223372036854775807) (h : Tbl base w0 w bt n m) :
    Calls Try.prog 9 #[.pointer (some ⟨bt, 0, none⟩), .string key] w fun e w' => e = .returned (.tuple #[.int .i64 (val m key), .int .i64 (dropE m key)]) ∧ Tbl base w0 w' bt n (drop m key) ∧ PFr w w' := by
  obtain ⟨bh, ch, hT, hB⟩ := h
  exact (drop_any base bt bh n ch m key hs w hT).mono fun e w' ⟨he, ch', hT', hM⟩ => ⟨he, ⟨bh, ch', hT', hM.below hT hB⟩, hM.pfr hT⟩
theorem get_T {base : Nat} {w0 w : World} {bt n : Nat} {m : Pairs} (key : ByteArray) (hs : key.size ≤ 9223372036854775807) (h : Tbl base w0 w bt n m) :
    Calls Try.prog 22 #[.pointer (some ⟨bt, 0, none⟩), .string key] w fun e w' => e = .returned (.tuple #[.int .i64 (val m key), .bool (has m key)]) ∧ Tbl base w0 w' bt n m ∧ Below w.heap.size w w' := by
  have h2 := h
  obtain ⟨bh, ch, hT, hB⟩ := h
  exact (get_any base bt bh n ch m key hs w hT).mono fun e w' ⟨he, hB'⟩ => ⟨he, h2.below hB', hB'⟩
theorem len_T {base : Nat} {w0 w : World} {bt n : Nat} {m : Pairs} (h : Tbl base w0 w bt n m) :
    Calls Try.prog 14 #[.pointer (some ⟨bt, 0, none⟩)] w fun e w' => e = .returned (.int .i64 (m.length : Int)) ∧ w' = w := by
  obtain ⟨bh, ch, hT, hB⟩ := h
  exact len_any base bt bh n ch m w hT
theorem new_T (n : Nat) (h1 : 1 ≤ n) (h2 : n ≤ 64) (w : World) :
    Calls Try.prog 8 #[.int .i64 (n : Int)] w fun e w' => ∃ bt, e = .returned (.tuple #[.pointer (some ⟨bt, 0, none⟩), .int .i64 0]) ∧ Tbl w.heap.size w w' bt n [] ∧ Below w.heap.size w w' :=
  (new_good n h1 h2 w).mono fun _ _ ⟨he, hT, hB⟩ => ⟨_, he, ⟨_, _, hT, hB⟩, hB⟩

theorem hash_e : hash ⟨#[]⟩ = 2166136261 := by kernel_rfl
theorem hash_a : hash ⟨#[97]⟩ = 3826002220 := by kernel_rfl
set_option maxHeartbeats 1000000 in
theorem known_any (w : World) : Calls Try.prog 16 #[] w fun e w' => e = .returned (.bool true) ∧ Below w.heap.size w w' := by
  have K1 := hide (new_T 2 (by omega) (by omega) w)
  go_enter Try.func16, Try.ntmps16
  go_wp2_with fail
  refine (unhide K1).mono ?_
  rintro e w1 ⟨bt, rfl, hT1, -⟩
  have K2 := hide (put_T (m := []) ⟨#[97]⟩ 1 (by decide) hT1)
  rw [show putE [] ⟨#[97]⟩ = 0 from rfl, show putM [] ⟨#[97]⟩ 1 = [(⟨#[97]⟩, 1)] from rfl] at K2
  clear hT1
  go_wp2_with fail
  refine (unhide K2).mono ?_
  rintro e w2 ⟨rfl, hT2, -⟩
  have K3 := hide (put_T ⟨#[97]⟩ 2 (by decide) hT2)
  rw [show putE [(⟨#[97]⟩, 1)] ⟨#[97]⟩ = 15 by simp [putE, has], show putM [(⟨#[97]⟩, 1)] ⟨#[97]⟩ 2 = [(⟨#[97]⟩, 1)] by simp [putM, has]] at K3
  clear hT2
  go_wp2_with fail
  refine (unhide K3).mono ?_
  rintro e w3 ⟨rfl, hT3, -⟩
  have K4 := hide (get_T ⟨#[97]⟩ (by decide) hT3)
  rw [show val [(⟨#[97]⟩, 1)] ⟨#[97]⟩ = 1 by simp [val], show has [(⟨#[97]⟩, 1)] ⟨#[97]⟩ = true by simp [has]] at K4
  clear hT3
  go_wp2_with fail
  refine (unhide K4).mono ?_
  rintro e w4 ⟨rfl, hT4, -⟩
  have HB := hide hT4.bel
  have K5 := hide (hash_any ⟨#[]⟩ (by decide) w4)
  have K6 := hide (hash_any ⟨#[97]⟩ (by decide) w4)
  rw [hash_e] at K5
  rw [hash_a] at K6
  clear hT4 K1 K2 K3 K4
  go_wp2_with fail
  refine (unhide K5).mono ?_
  rintro e w5 ⟨rfl, rfl⟩
  go_wp2_with fail
  refine (unhide K6).mono ?_
  rintro e w6 ⟨rfl, rfl⟩
  go_wp2_with fail
  go_ret
  exact ⟨rfl, unhide HB⟩

set_option maxHeartbeats 400000 in
theorem within_any (v hi : Int) (w : World) (h0 : 0 ≤ hi) (h1 : hi ≤ 1000) :
    Calls Try.prog 27 #[.int .i64 v, .int .i64 0, .int .i64 hi] w fun e w' => (∃ r : Int, 0 ≤ r ∧ r ≤ hi ∧ e = .returned (.int .i64 r)) ∧ w' = w := by
  have t1 : v.tmod (hi + 1) < hi + 1 := Int.tmod_lt_of_pos v (by omega)
  have t2 : -(hi + 1) < v.tmod (hi + 1) := by
    have h := Int.tmod_lt_of_pos (-v) (show 0 < hi + 1 by omega)
    rw [Int.neg_tmod] at h
    omega
  have t3 : ¬ hi + 1 = 0 := by omega
  by_cases hn : v.tmod (hi + 1) < 0
  · go_enter Try.func27, Try.ntmps27
    go_wp2
    go_ret
    exact ⟨⟨_, by omega, by omega, rfl⟩, rfl⟩
  · go_enter Try.func27, Try.ntmps27
    go_wp2
    go_ret
    exact ⟨⟨_, by omega, by omega, rfl⟩, rfl⟩
end Go.Proofs.Ytbmcnfdciogmjaa
