/-
  The document's table: Put.
-/
import Derived.Test.YtbmcnfdciogmjaaRefB
namespace Go.Proofs.Ytbmcnfdciogmjaa
open Go.RowKit Go.Sort
attribute [local go_sem ↓] Go.wp_at_zero Go.wp_at_succ

/-- Blocks of other types than the document's table's keep what they hold; so do all below base. -/
structure RFr (base : Nat) (w w' : World) : Prop where
  bel : Below base w w'
  oth : ∀ (k : Nat) (cur : Array Value) (t : TypeId), w.heap[k]? = some (.cells cur t (0, 0)) → t ≠ 70 → t ≠ 73 → w'.heap[k]? = w.heap[k]?
theorem RFr.of_below {base : Nat} {w w' : World} (h : Below w.heap.size w w') (hb : base ≤ w.heap.size) : RFr base w w' := ⟨h.mono hb, fun k _ _ hk _ _ => h.block k (lt_of_heap hk)⟩
theorem Tb.keep {base : Nat} {W W' : World} {bt bh n : Nat} {ch : Nat → List E} {m : Pairs} (h : Tb base W bt bh n ch m) (hk : ∀ k, Own bt bh n ch k → W'.heap[k]? = W.heap[k]?) : Tb base W' bt bh n ch m := by
  have hn : ∀ i, i < n → ∀ l, (∀ x ∈ l, x ∈ headE bh i :: ch i) → Path W l → Path W' l := by
    intro i hi l
    induction l with
    | nil => intro _ _; trivial
    | cons x l ih =>
      intro hs hp
      have ho : Own bt bh n ch x.blk := by
        rcases List.mem_cons.1 (hs x (by simp)) with e | e
        · exact .inr (.inl (by rw [e]; rfl))
        · exact .inr (.inr ⟨i, hi, x, e, rfl⟩)
      have e := hk _ ho
      exact ⟨⟨hp.1.m3, (cell_same e _).trans hp.1.k0, (cell_same e _).trans hp.1.k1, (cell_same e _).trans hp.1.k2, (frozen_same e _).trans hp.1.fz⟩, ih (fun y hy => hs y (by simp [hy])) hp.2⟩
  refine ⟨(hk bt (.inl rfl)).trans h.hb, h.lo, h.hi, fun i hi => hn i hi _ (fun x hx => hx) (h.path i hi), h.off0, h.nbh, h.slot, h.mem, h.nod, h.mnod, h.mlen, h.kt, h.kh, h.kx, fun k hk2 => ?_⟩
  obtain ⟨cs, hcs⟩ := h.ty k hk2
  exact ⟨cs, (hk k (.inr hk2)).trans hcs⟩
theorem Tb.rfr {base b2 : Nat} {W W' : World} {bt bh n : Nat} {ch : Nat → List E} {m : Pairs} (h : Tb base W bt bh n ch m) (g : RFr b2 W W') : Tb base W' bt bh n ch m := h.keep fun k hk => by
  rcases hk with rfl | hk
  · exact g.oth _ _ _ h.hb (by decide) (by decide)
  · obtain ⟨cs, hcs⟩ := h.ty k hk
    exact g.oth _ _ _ hcs (by decide) (by decide)

theorem own_ne {W : World} {base : Nat} {e : TypeId} {s n k : Nat} {v : Value} {xs : List Value} {o : Obj} (h : W.ownsRow base e s v n xs) (ho : W.heap[k]? = some o) (hne : ∀ cur, o ≠ .cells cur e (0, 0)) : some k ≠ v.ownBlock := by
  obtain ⟨-, ⟨rfl, hz⟩ | ⟨g, cap, cur, rfl, hgb, hgg, hcap, hcm, hcs, htk⟩⟩ := h
  · simp [Value.ownBlock]
  · simp only [Value.ownBlock, ne_eq, Option.some.injEq]
    rintro rfl
    rw [hgg] at ho
    exact hne cur (Option.some.inj ho).symm
theorem own_form {W : World} {base : Nat} {e : TypeId} {s n : Nat} {v : Value} {xs : List Value} (h : W.ownsRow base e s v n xs) : ∃ a cap, v = .slice a n cap := by
  obtain ⟨-, ⟨rfl, hz⟩ | ⟨g, cap, cur, rfl, _⟩⟩ := h
  · exact ⟨none, 0, by rw [hz]⟩
  · exact ⟨_, _, rfl⟩
theorem info73 : (Try.prog.info? 73).map (fun i => (i.zero, i.size, i.bytes)) = some (some (.agg #[.string ByteArray.empty, .int .i64 0]), 2, 24) := by kernel_rfl
set_option maxHeartbeats 400000 in
theorem rput_busy (base rb : Nat) (m : Pairs) (key : ByteArray) (v : Int) (hm : m.length ≤ 64) (w : World) (h : Rf base w rb m) (hh : has m key = true) :
    Calls Try.prog 20 #[.pointer (some ⟨rb, 0, none⟩), .string key, .int .i64 v] w fun e w' => e = .returned (.int .i64 15) ∧ w' = w := by
  have HF := hide (rfind_any base rb m key hm w h)
  obtain ⟨j, hp, hj, -⟩ := pos_has hh
  rw [hp] at HF
  have j0 : (0 : Int) ≤ (j : Int) := by omega
  clear h hh hp hj
  go_enter Try.func20, Try.ntmps20
  go_wp2_with fail
  refine (unhide HF).mono ?_
  rintro e w1 ⟨rfl, rfl⟩
  go_wp2_with fail
  go_ret
  exact ⟨rfl, rfl⟩
set_option maxHeartbeats 400000 in
theorem rput_full (base rb : Nat) (m : Pairs) (key : ByteArray) (v : Int) (hm : m.length ≤ 64) (w : World) (h : Rf base w rb m) (hh : has m key = false) (hm2 : ¬ m.length < 64) :
    Calls Try.prog 20 #[.pointer (some ⟨rb, 0, none⟩), .string key, .int .i64 v] w fun e w' => e = .returned (.int .i64 13) ∧ w' = w := by
  have HF := hide (rfind_any base rb m key hm w h)
  rw [show pos m key = -1 by simp [pos, hh]] at HF
  obtain ⟨a, cap, h0, hf, hc⟩ := h.cell0
  have q : (64 : Int) ≤ (m.length : Int) := by omega
  clear h hh hf hc hm hm2
  generalize m.length = ml at *
  go_enter Try.func20, Try.ntmps20
  go_wp2_with fail
  refine (unhide HF).mono ?_
  rintro e w1 ⟨rfl, rfl⟩
  go_wp2_with fail
  go_ret
  exact ⟨rfl, rfl⟩
set_option maxHeartbeats 1000000 in
theorem rput_in (base rb : Nat) (m : Pairs) (key : ByteArray) (v : Int) (w : World) (h : Rf base w rb m) (hh : has m key = false) (hm2 : m.length < 64) :
    Calls Try.prog 20 #[.pointer (some ⟨rb, 0, none⟩), .string key, .int .i64 v] w fun e w' => e = .returned (.int .i64 0) ∧ Rf base w' rb (m ++ [(key, v)]) ∧ RFr base w w' := by
  obtain ⟨i0, hi, hz0, hz1, hz2⟩ := info_parts info73
  have HF := hide (rfind_any base rb m key (by omega) w h)
  rw [show pos m key = -1 by simp [pos, hh]] at HF
  have HR := hide h
  obtain ⟨a, cap, hb, hown⟩ := h.hb
  have h0 : w.cell? ⟨rb, 0, none⟩ = some (.slice a m.length cap) := by rw [cell_of hb]; rfl
  have hf : ∀ i, w.frozen? ⟨rb, i, none⟩ = false := frozen_of hb
  have hlt := lt_of_heap hb
  have hkb := h.kb
  have q : (m.length : Int) < 64 := by omega
  have own2 := own_keep (W' := w.alloc (.cells #[.string key, .int .i64 v] 73)) hown (fun j cur hc => Below.heap_alloc _ _ _ (lt_of_heap hc))
  have hs2 : base ≤ (w.alloc (.cells #[.string key, .int .i64 v] 73)).heap.size := by simp; omega
  have HB := hide hb
  have HO := hide own2
  have hpl := hide (pairsV_len m)
  clear h hh hb hown
  generalize hml : m.length = ml at *
  replace hml := hide hml
  generalize hps : pairsV m = ps at *
  replace hps := hide hps
  go_enter Try.func20, Try.ntmps20
  go_wp2_with fail
  refine (unhide HF).mono ?_
  rintro e w1 ⟨rfl, rfl⟩
  go_wp2_with (first
    | (at_builtin; refine wpList_append_own_at _ rfl _ _ 68 rfl base 73 i0 (.agg #[.string ByteArray.empty, .int .i64 0]) 2 24 Try.underlying68 hi hz0 hz1 hz2 rfl (by decide) _ _ _ rfl own2 ⟨w1.heap.size, 0, none⟩ 1 1 [.string key, .int .i64 v] rfl rfl ?c1 ?c2 ?c3 ?c4 ?c5 ?_))
  case c1 =>
    intro j u hj
    match j, hj with
    | 0, hj => simp at hj; subst hj; simp [Addr.add]
    | 1, hj => simp at hj; subst hj; simp [Addr.add]
  case c2 => intro u hu; simp at hu; rcases hu with rfl | rfl <;> rfl
  case c3 => unfold maxLen; omega
  case c4 => omega
  case c5 => exact hs2
  intro v' w5 own5 hgr _ _
  have hbA : (w1.alloc (.cells #[.string key, .int .i64 v] 73)).heap[rb]? = some (.cells #[.slice a ml cap] 70) := (Below.heap_alloc _ _ _ hlt).trans (unhide HB)
  have hb5 : w5.heap[rb]? = some (.cells #[.slice a ml cap] 70) := (hgr.block rb (lt_of_heap hbA) (own_ne (unhide HO) hbA (by simp))).trans hbA
  have z0 : w5.cell? ⟨rb, 0, none⟩ = some (.slice a ml cap) := by rw [cell_of hb5]; rfl
  have zf : ∀ i, w5.frozen? ⟨rb, i, none⟩ = false := frozen_of hb5
  obtain ⟨a', cap', rfl⟩ := own_form own5
  have HG := hide hgr
  have HB5 := hide hb5
  have HO5 := hide own5
  have HBA := hide hbA
  clear own5 hgr own2 hb5 hbA h0 hf
  go_wp2_with fail
  go_ret
  have hgr := unhide HG
  have hself : ∀ k, k ≠ rb → (w5.setCell ⟨rb, 0, none⟩ (.slice a' (ml + 1) cap')).heap[k]? = w5.heap[k]? := fun k hk => Below.heap_setCell _ _ _ _ hk
  refine ⟨rfl, ⟨⟨a', cap', ?_, ?_⟩, hkb⟩, ⟨?_, ?_⟩⟩
  · rw [List.length_append, unhide hml]
    exact heap_set (unhide HB5) 0 _
  · rw [List.length_append, unhide hml]
    have e : pairsV (m ++ [(key, v)]) = ps ++ [.string key, .int .i64 v] := by rw [← unhide hps]; simp [pairsV, pairV]
    rw [e]
    refine own_keep (unhide HO5) fun k cur hc => hself k ?_
    rintro rfl
    rw [unhide HB5] at hc
    simp at hc
  · have b1 : Below base w1 (w1.alloc (.cells #[.string key, .int .i64 v] 73)) := ((Below.refl _ w1).alloc (Nat.le_refl _) _).mono (by omega)
    have b2 := below_grown b1 (unhide HO) hgr hs2
    exact ⟨b2.os, b2.tape, b2.output, by have := b2.size; simp [World.setCell]; omega, fun k hk => (hself k (by omega)).trans (b2.block k hk)⟩
  · intro k cur t hk h1 h2
    have hkA : (w1.alloc (.cells #[.string key, .int .i64 v] 73)).heap[k]? = some (.cells cur t (0, 0)) := (Below.heap_alloc _ _ _ (lt_of_heap hk)).trans hk
    have hne : k ≠ rb := by rintro rfl; rw [unhide HB] at hk; simp at hk; exact h1 hk.2.symm
    rw [hself k hne, hgr.block k (lt_of_heap hkA) (own_ne (unhide HO) hkA (by intro c e; simp at e; exact h2 e.2)), hkA, hk]
theorem rput_any (base rb : Nat) (m : Pairs) (key : ByteArray) (v : Int) (hm : m.length ≤ 64) (w : World) (h : Rf base w rb m) :
    Calls Try.prog 20 #[.pointer (some ⟨rb, 0, none⟩), .string key, .int .i64 v] w fun e w' => e = .returned (.int .i64 (putE m key)) ∧ Rf base w' rb (putM m key v) ∧ RFr base w w' := by
  have hb : base ≤ w.heap.size := by
    obtain ⟨a, cap, h1, _⟩ := h.hb
    have := h.kb; have := lt_of_heap h1; omega
  unfold putE putM
  cases hh : has m key with
  | true => exact (rput_busy base rb m key v hm w h hh).mono fun e w' ⟨he, hw⟩ => ⟨he, by rw [hw]; exact ⟨h, .of_below (Below.refl _ w) hb⟩⟩
  | false =>
    by_cases hl : m.length < 64
    · simp only [hl, if_true, Bool.false_eq_true, if_false]
      exact rput_in base rb m key v w h hh hl
    · simp only [hl, if_false, Bool.false_eq_true]
      exact (rput_full base rb m key v hm w h hh hl).mono fun e w' ⟨he, hw⟩ => ⟨he, by rw [hw]; exact ⟨h, .of_below (Below.refl _ w) hb⟩⟩
end Go.Proofs.Ytbmcnfdciogmjaa
