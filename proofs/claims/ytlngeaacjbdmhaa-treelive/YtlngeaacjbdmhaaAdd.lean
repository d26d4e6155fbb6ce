/-
  The contract of add: a node more.
-/
import Derived.Test.YtlngeaacjbdmhaaGetB
namespace Go.Proofs.Ytlngeaacjbdmhaa
open Go.RowKit Go.Maps

theorem cells7 {W : World} {b : Nat} {a0 a1 a2 a3 a4 a5 a6 : Value} {ty : TypeId} (h : W.heap[b]? = some (.cells #[a0, a1, a2, a3, a4, a5, a6] ty)) : W.cell? ⟨b, 0, none⟩ = some a0 ∧ W.cell? ⟨b, 1, none⟩ = some a1 ∧ W.cell? ⟨b, 2, none⟩ = some a2 ∧ W.cell? ⟨b, 3, none⟩ = some a3 ∧ W.cell? ⟨b, 4, none⟩ = some a4 ∧ W.cell? ⟨b, 5, none⟩ = some a5 ∧ W.cell? ⟨b, 6, none⟩ = some a6 ∧ ∀ i, W.frozen? ⟨b, i, none⟩ = false := by
  refine ⟨?_, ?_, ?_, ?_, ?_, ?_, ?_, frozen_of h⟩ <;> (rw [cell_of h]; rfl)
abbrev stV (a kind mode uid gid f g : Int) : Value := .agg #[I a, I kind, I mode, I uid, I gid, I f, I g]
section
variable {lo N : Nat} {W W' : World} {t : Nat} {T : Tr} {q p : Nat} {nb : Int → Nat} {ev : Int → Value} {B : Nat}
/-- The pool stays where all that is its own does. -/
theorem Pl.keepK {base : Bse} {n : Nat} {W W' : World} {p : Nat} {s : S} (h : Pl base n W p s) (hs : W.heap.size ≤ W'.heap.size) (hm : ∀ (b : Nat) (es : Array MapEntry) (k : Nat), W.heap[b]? = some (.map es k) → ¬ base.K b → W'.heap[b]? = W.heap[b]?) (hc : ∀ (b : Nat) (cs : Array Value) (t : TypeId) (f : Nat × Nat), W.heap[b]? = some (.cells cs t f) → t = 86 ∨ t = 99 → W'.heap[b]? = W.heap[b]?) : Pl base n W' p s := by
  obtain ⟨fb, cb, mb, h⟩ := h
  have hM : ∀ {b m f}, Mp W b m f → ¬ base.K b → Mp W' b m f := fun {b m f} hm' hK => hm'.same (by
    obtain ⟨D, ⟨es, k, h1, _⟩, _⟩ := hm'
    exact hm b es k h1 hK)
  exact ⟨fb, cb, mb, (hc _ _ _ _ h.hp (.inl rfl)).trans h.hp, hM h.hf h.bp.2.1.2, fun k x hk => ⟨(hc _ _ _ _ (h.hx k x hk).hc (.inr rfl)).trans (h.hx k x hk).hc, hM (h.hx k x hk).hm (h.bp.2.2 k x hk).2.2, (h.hx k x hk).ok⟩, h.dc, h.df, h.bp, h.bs.mono hs, h.tot, h.nn⟩
/-- A store beside the tree's own nodes. -/
theorem TrI.aside (h : TrI lo N W t T q p nb ev) {b0 : Nat} {cs : Array Value} (hb : W.heap[b0]? = some (.cells cs 61)) (hne : ∀ k x, T.nd k = some x → nb k ≠ b0) (hlo : lo ≤ b0) (i : Nat) (v : Value) : TrI lo N (W.setCell ⟨b0, i, none⟩ v) t T q p nb ev ∧ Tx lo W (W.setCell ⟨b0, i, none⟩ v) := by
  have kp : ∀ b, b ≠ b0 → (W.setCell ⟨b0, i, none⟩ v).heap[b]? = W.heap[b]? := fun b hb => Below.heap_setCell _ _ _ _ hb
  have hsz : (W.setCell ⟨b0, i, none⟩ v).heap.size = W.heap.size := by simp [World.setCell]
  have kc : ∀ (b : Nat) (cs : Array Value) (ty : TypeId) (f : Nat × Nat), W.heap[b]? = some (.cells cs ty f) → ty ≠ 61 → (W.setCell ⟨b0, i, none⟩ v).heap[b]? = W.heap[b]? := fun b cs ty f e ht => kp b fun e2 => by rw [e2, hb] at e; cases e; exact ht rfl
  have km : ∀ (b : Nat) (es : Array MapEntry) (k : Nat), W.heap[b]? = some (.map es k) → (W.setCell ⟨b0, i, none⟩ v).heap[b]? = W.heap[b]? := fun b es k e => kp b fun e2 => by rw [e2, hb] at e; cases e
  refine ⟨⟨(kc _ _ _ _ h.ht (by decide)).trans h.ht, h.hm.same ?_, fun k x hk => ⟨(kp _ (hne k x hk)).trans (h.hn k x hk).1, (h.hn k x hk).2.same fun g hg => ?_⟩, h.dn, h.pl.keep (by rw [hsz]; exact Nat.le_refl _) km fun b cs ty f e ht => kc b cs ty f e (by rcases ht with ht | ht <;> (rw [ht]; decide)), ⟨h.bd.1, h.bd.2.1, by rw [hsz]; exact h.bd.2.2.1, h.bd.2.2.2⟩⟩, ⟨(Below.refl _ _).setCell hlo _, fun b cs ty f e _ _ _ h4 _ => (kc b cs ty f e h4).trans e⟩⟩
  · obtain ⟨D, ⟨es, k, h1, _⟩, _⟩ := h.hm
    exact km q es k h1
  · obtain ⟨_, cur, hc⟩ := (h.hn k x hk).2.blk hg
    exact kc _ _ _ _ hc (by decide)
/-- A node more, whose block is new. -/
theorem TrI.more (h : TrI lo N W t T q p nb ev) (hw : Wk B T) {x : Nd} {s : S} {b : Nat} (hbs : W.heap.size ≤ b) (hx : W'.heap[b]? = some (.cells (ndC x (.slice none 0 0)) 61)) (hi : x.ins = [])
    (ht : W'.heap[t]? = some (.cells #[I (T.most : Int), I ((T.made + 1 : Nat) : Int), .map (some q), P0 p] 57)) (hm : Mp W' q (T.made + 1 + 1) (upd (fun k => if (T.nd k).isSome = true then some (P0 (nb k)) else none) ((T.made : Int) + 1) (some (P0 b))))
    (hp : Pl ⟨lo, fun b => b = q⟩ N W' p s) (hsz : W.heap.size ≤ W'.heap.size) (hk : ∀ (b : Nat) (cs : Array Value) (ty : TypeId) (f : Nat × Nat), W.heap[b]? = some (.cells cs ty f) → ty = 61 ∨ ty = 92 → W'.heap[b]? = W.heap[b]?) :
    TrI lo N W' t ⟨T.most, T.made + 1, fun k => if k = (T.made : Int) + 1 then some x else T.nd k, s⟩ q p (fun k => if k = (T.made : Int) + 1 then b else nb k) (fun k => if k = (T.made : Int) + 1 then .slice none 0 0 else ev k) := by
  have hno : ∀ k x, T.nd k = some x → k ≠ (T.made : Int) + 1 := fun k x hk e => by have := hw.key k x hk; omega
  refine ⟨ht, hm.congr fun k => ?_, fun k y hy => ?_, fun j k y z hy hz hjk => ?_, hp, ⟨h.bd.1, h.bd.2.1, Nat.le_trans h.bd.2.2.1 hsz, fun k y hy => ?_⟩⟩
  · simp only [upd]
    by_cases e : k = (T.made : Int) + 1
    · simp [e]
    · simp [e]
  · by_cases e : k = (T.made : Int) + 1
    · simp only [if_pos e] at hy ⊢
      cases hy
      refine ⟨hx, ?_⟩
      rw [hi]
      exact ⟨rfl, .inl ⟨rfl, rfl⟩⟩
    · simp only [if_neg e] at hy ⊢
      refine ⟨(hk _ _ _ _ (h.hn k y hy).1 (.inl rfl)).trans (h.hn k y hy).1, (h.hn k y hy).2.same fun g hg => ?_⟩
      obtain ⟨_, cur, hc⟩ := (h.hn k y hy).2.blk hg
      exact hk _ _ _ _ hc (.inr rfl)
  · by_cases e : j = (T.made : Int) + 1
    · by_cases e2 : k = (T.made : Int) + 1
      · exact absurd (e.trans e2.symm) hjk
      · simp only [if_pos e, if_neg e2] at hz ⊢
        have := lt_of_heap (h.hn k z hz).1
        exact ⟨by omega, .inl rfl⟩
    · by_cases e2 : k = (T.made : Int) + 1
      · simp only [if_neg e, if_pos e2] at hy ⊢
        have := lt_of_heap (h.hn j y hy).1
        refine ⟨by omega, ?_⟩
        cases ho : (ev j).ownBlock with
        | none => exact .inl rfl
        | some g => exact .inr (by simp [Value.ownBlock])
      · simp only [if_neg e, if_neg e2] at hy hz ⊢
        exact h.dn j k y z hy hz hjk
  · by_cases e : k = (T.made : Int) + 1
    · simp only [if_pos e]
      exact Nat.le_trans h.bd.2.2.1 hbs
    · simp only [if_neg e] at hy ⊢
      exact h.bd.2.2.2 k y hy
set_option maxRecDepth 100000 in
set_option maxHeartbeats 1000000 in
theorem add_any (h : TrI lo N W t T q p nb ev) (hw : Wk B T) (hB : B ≤ 900) (a kind mode uid gid f g : Int) (text : ByteArray) (hs : text.size ≤ 281474976710656) :
    Calls Try.prog 20 #[P0 t, stV a kind mode uid gid f g, .string text] W fun e w' => e = .returned (I ((T.made : Int) + 1)) ∧ ∃ b, TrI lo N w' t (T.add kind mode uid gid text) q p (fun k => if k = (T.made : Int) + 1 then b else nb k) (fun k => if k = (T.made : Int) + 1 then .slice none 0 0 else ev k) ∧ Tx lo W w' := by
  have hcl := hide (fun w => clone_any text w hs)
  obtain ⟨md, hmd⟩ : ∃ md, md = bits .and .i64 mode 4095 := ⟨_, rfl⟩
  have HMD := hide hmd
  have HH := hide h
  have hlo := h.bd.2.2.1
  obtain ⟨M, hM⟩ : ∃ M, M = T.made := ⟨_, rfl⟩
  have hM1 : (M : Int) < 901 := by have := hw.made; omega
  have HMM := hide hM
  have HW := hide hw
  rw [← hM]
  clear h hmd hM hw
  go_enter Try.func20, Try.ntmps20
  go_wp2_with fail
  obtain ⟨W0, hW0⟩ : ∃ W0, W0 = W.alloc (Obj.cells #[I a, I kind, I mode, I uid, I gid, I f, I g] 29) := ⟨_, rfl⟩
  have hB1 : Below W.heap.size W W0 := by rw [hW0]; exact (Below.refl _ W).alloc (Nat.le_refl _) _
  have hR : W0.heap[W.heap.size]? = some (.cells #[I a, I kind, I mode, I uid, I gid, I f, I g] 29) := by rw [hW0]; exact heap_alloc_new W _
  have hRl := lt_of_heap hR
  rw [← hW0]
  have hcc : Hid (Calls Try.prog 36 #[.string text] W0.drew fun e w2 => e = .returned (.string text) ∧ Hid (Below W.heap.size W w2) ∧ w2.heap[W.heap.size]? = some (.cells #[I a, I kind, I mode, I uid, I gid, I f, I g] 29)) := by
    refine (unhide hcl W0.drew).mono ?_
    rintro e w2 ⟨h1, h2⟩
    exact ⟨h1, (below_drew hB1).trans (h2.mono (Nat.le_of_lt hRl)), (h2.block _ hRl).trans hR⟩
  clear hW0
  obtain ⟨R, hRR⟩ : ∃ R, R = W.heap.size := ⟨_, rfl⟩
  have HRR := hide hRR
  rw [← hRR] at hR hcc ⊢
  obtain ⟨-, e1, e2, e3, e4, -, -, -⟩ := cells7 hR
  clear hB1 hR hRl hRR
  go_region_held3 (fun w' => w'.cell? ⟨R, 1, none⟩ = some (I kind) ∧ w'.cell? ⟨R, 2, none⟩ = some (I mode) ∧ w'.cell? ⟨R, 3, none⟩ = some (I uid) ∧ w'.cell? ⟨R, 4, none⟩ = some (I gid)) (go_keep)
    (first
      | (go_at_call 36; refine (unhide hcc).mono ?_; rintro e w2 ⟨rfl, HB2, hR2⟩; obtain ⟨-, f1, f2, f3, f4, -, -, -⟩ := cells7 hR2; clear hR2))
  obtain ⟨V, hV⟩ : ∃ V, V = w2.alloc (Obj.cells (ndC ⟨kind, bits .and .i64 mode 4095, uid, gid, 0, 0, 0, [], 0, text⟩ (.slice none 0 0)) 61) := ⟨_, rfl⟩
  change Exit.then _ _ Exit.normal _ (w2.alloc (Obj.cells (ndC ⟨kind, bits .and .i64 mode 4095, uid, gid, 0, 0, 0, [], 0, text⟩ (.slice none 0 0)) 61))
  rw [← hV]
  have hB2 := unhide HB2
  have hbk : V.heap[w2.heap.size]? = some (.cells (ndC ⟨kind, bits .and .i64 mode 4095, uid, gid, 0, 0, 0, [], 0, text⟩ (.slice none 0 0)) 61) := by rw [hV]; exact heap_alloc_new w2 _
  have hBV : Below W.heap.size W V := by
    rw [hV, ← unhide HRR]
    exact hB2.alloc (by have := hB2.size; rw [← unhide HRR] at this; exact this) _
  have hws : W.heap.size ≤ w2.heap.size := hB2.size
  clear hV
  obtain ⟨bk, hbke⟩ : ∃ bk, bk = w2.heap.size := ⟨_, rfl⟩
  rw [← hbke] at hbk hws ⊢
  have hkeepN : Hid (∀ V4 : World, Tx lo V V4 → Tx lo W V4) := fun V4 h4 => (Tx.of_below hBV hlo).trans h4
  clear hbke hB2 HB2 hcc hcl e1 e2 e3 e4 f1 f2 f3 f4 HRR
  have TV := (unhide HH).below hBV
  have hbks := lt_of_heap hbk
  obtain ⟨c0, c1, c2, c3, cf⟩ := TV.cells
  rw [← unhide HMM] at c1
  have htl := lt_of_heap TV.ht
  have htn : t ≠ bk := fun e => by
    have := TV.ht
    rw [e, hbk] at this
    simp [ndC] at this
  have hqb : q < V.heap.size := TV.hm.lt
  have hqt : q ≠ t := fun e => map_blk TV.hm (by rw [e]; exact TV.ht)
  have hqk : q ≠ bk := fun e => map_blk TV.hm (by rw [e]; exact hbk)
  -- behind File: one counter and one entry
  have step : ∀ (V2 : World) (fl : Int) (s : S), V2.heap[bk]? = some (.cells (ndC ⟨kind, bits .and .i64 mode 4095, uid, gid, 0, 0, 0, [], fl, text⟩ (.slice none 0 0)) 61) → TrI lo N V2 t { T with pool := s } q p nb ev → Tx lo V V2 → (∀ (b : Nat) (cs : Array Value) (ty : TypeId) (f : Nat × Nat), V.heap[b]? = some (.cells cs ty f) → ty = 61 ∨ ty = 92 → b ≠ bk → V2.heap[b]? = V.heap[b]?) → V.heap.size ≤ V2.heap.size →
      ∃ V4, (Instr.mapUpdate 55 (.map (some q)) (I ((M : Int) + 1)) (P0 bk)).run Try.prog (V2.setCell ⟨t, 1, none⟩ (I ((M : Int) + 1))).drew = .ok () V4 ∧ V4.cell? ⟨t, 1, none⟩ = some (I ((M : Int) + 1)) ∧ TrI lo N V4 t ⟨T.most, T.made + 1, fun k => if k = (T.made : Int) + 1 then some ⟨kind, bits .and .i64 mode 4095, uid, gid, 0, 0, 0, [], fl, text⟩ else T.nd k, s⟩ q p (fun k => if k = (T.made : Int) + 1 then bk else nb k) (fun k => if k = (T.made : Int) + 1 then .slice none 0 0 else ev k) ∧ Tx lo W V4 := by
    intro V2 fl s h2 T2 X2 K2 Z2
    have ht2 := T2.ht
    have hmade : ({ T with pool := s } : Tr).made = T.made := rfl
    have hM2 : Mp (V2.setCell ⟨t, 1, none⟩ (I ((M : Int) + 1))).drew q (T.made + 1) (fun k => if (T.nd k).isSome = true then some (P0 (nb k)) else none) := T2.hm.same (Below.heap_setCell _ _ _ _ hqt)
    obtain ⟨V4, hrun, M4, F4, hs4⟩ := hM2.store htN (by have := (unhide HW).made; unfold maxLen; omega) (k := (M : Int) + 1) (wf_of (by omega)) (P0 bk)
    have ht3 : (V2.setCell ⟨t, 1, none⟩ (I ((M : Int) + 1))).drew.heap[t]? = some (.cells #[I (T.most : Int), I ((M : Int) + 1), .map (some q), P0 p] 57) := by
      have := heap_set ht2 1 (I ((M : Int) + 1))
      exact this
    have hsz3 : (V2.setCell ⟨t, 1, none⟩ (I ((M : Int) + 1))).drew.heap.size = V2.heap.size := by simp [World.setCell]
    have ht4 : V4.heap[t]? = some (.cells #[I (T.most : Int), I ((M : Int) + 1), .map (some q), P0 p] 57) := (F4.blk t (by rw [hsz3]; exact lt_of_heap ht2) (by simpa using hqt.symm)).trans ht3
    have kp : ∀ b, b ≠ t → b ≠ q → b < V2.heap.size → V4.heap[b]? = V2.heap[b]? := fun b h1 h2 h3 => (F4.blk b (by rw [hsz3]; exact h3) (by simpa using h2)).trans (Below.heap_setCell _ _ _ _ h1)
    refine ⟨V4, hrun, by rw [cell_of ht4]; rfl, ?_, ?_⟩
    · refine TrI.more (unhide HH) (unhide HW) hws ?_ rfl ?_ ?_ ?_ (Nat.le_trans hBV.size (by rw [hs4, hsz3]; exact Z2)) ?_
      · exact (kp bk htn.symm hqk.symm (lt_of_heap h2)).trans h2
      · rw [ht4]
        have := unhide HMM
        simp [this]
      · rw [unhide HMM] at M4
        exact M4
      · exact T2.pl.keepK (by rw [hs4, hsz3]; exact Nat.le_refl _) (fun b es k e hK => kp b (fun e2 => by rw [e2, ht2] at e; cases e) hK (lt_of_heap e)) fun b cs ty f e hty => kp b (fun e2 => by rw [e2, ht2] at e; cases e; rcases hty with hty | hty <;> exact absurd hty (by decide)) (fun e2 => map_blk T2.hm (by rw [← e2]; exact e)) (lt_of_heap e)
      · intro b cs ty f e hty
        have hbl := lt_of_heap e
        have e1 := (hBV.block b hbl).trans e
        have hbt : b ≠ t := fun e2 => by rw [e2, TV.ht] at e1; cases e1; rcases hty with hty | hty <;> exact absurd hty (by decide)
        have hbq : b ≠ q := fun e2 => map_blk TV.hm (by rw [← e2]; exact e1)
        exact (kp b hbt hbq (by have := hBV.size; omega)).trans ((K2 b cs ty f e1 hty (by omega)).trans (hBV.block b hbl))
    · refine unhide hkeepN V4 (X2.trans ⟨?_, ?_⟩)
      · exact ⟨F4.os, F4.tape, F4.output, by have := F4.size; rw [hsz3] at this; exact this, fun k hk => kp k (by have := T2.bd.1; omega) (by have := T2.bd.2.1; omega) (by have := T2.bd.2.2.1; omega)⟩
      · intro b cs ty f e _ _ h3 _ _
        exact (kp b (fun e2 => by rw [e2, ht2] at e; cases e; exact h3 rfl) (fun e2 => map_blk T2.hm (by rw [← e2]; exact e)) (lt_of_heap e)).trans e
  have HST := hide step
  have HTV := hide TV
  have HBK := hide hbk
  have hbk0 : V.cell? ⟨bk, 0, none⟩ = some (I kind) := by rw [cell_of hbk]; rfl
  have HLL : Hid (T.pool.fs.length ≤ B) := (unhide HW).pol
  by_cases hk : kind = 2
  · have H := file_any TV.pl (by have := unhide HLL; omega)
    have hk8 : Hid (∀ V1, Nx ⟨lo, fun b => b = q⟩ V V1 → V1.heap[bk]? = some (.cells (ndC ⟨kind, bits .and .i64 mode 4095, uid, gid, 0, 0, 0, [], 0, text⟩ (.slice none 0 0)) 61) ∧ V1.heap[t]? = some (.cells #[I (T.most : Int), I (T.made : Int), .map (some q), P0 p] 57)) := fun V1 nx => ⟨nx.oth _ _ _ _ hbk (by decide) (by decide), nx.oth _ _ _ _ TV.ht (by decide) (by decide)⟩
    have HF := hide H
    obtain ⟨fl, hfl⟩ : ∃ fl : Int, fl = ((T.pool.fs.length + 1 : Nat) : Int) := ⟨_, rfl⟩
    rw [← hfl] at HF
    have HFL := hide hfl
    have HK := hide hk
    subst hk
    have hnbk : ∀ k x, T.nd k = some x → nb k ≠ bk := fun k x hk => by have := lt_of_heap ((unhide HH).hn k x hk).1; omega
    have hlbk : lo ≤ bk := Nat.le_trans hlo hws
    have FIN : Hid (∀ V1, Pl ⟨lo, fun b => b = q⟩ N V1 p T.pool.add → Nx ⟨lo, fun b => b = q⟩ V V1 → (V1.cell? ⟨bk, 8, none⟩ = some (I 0) ∧ (∀ i, V1.frozen? ⟨bk, i, none⟩ = false) ∧ V1.cell? ⟨t, 1, none⟩ = some (I (M : Int)) ∧ V1.cell? ⟨t, 2, none⟩ = some (.map (some q)) ∧ ∀ i, V1.frozen? ⟨t, i, none⟩ = false) ∧ ∃ V2, V2 = V1.setCell ⟨bk, 8, none⟩ (I fl) ∧ (V2.cell? ⟨t, 1, none⟩ = some (I (M : Int)) ∧ V2.cell? ⟨t, 2, none⟩ = some (.map (some q)) ∧ ∀ i, V2.frozen? ⟨t, i, none⟩ = false) ∧ ∃ V3, V3 = V2.setCell ⟨t, 1, none⟩ (I ((M : Int) + 1)) ∧ (V3.cell? ⟨t, 1, none⟩ = some (I ((M : Int) + 1)) ∧ V3.cell? ⟨t, 2, none⟩ = some (.map (some q))) ∧ ∃ V4, (Instr.mapUpdate 55 (.map (some q)) (I ((M : Int) + 1)) (P0 bk)).run Try.prog V3.drew = .ok () V4 ∧ V4.cell? ⟨t, 1, none⟩ = some (I ((M : Int) + 1)) ∧ Hid (TrI lo N V4 t (T.add 2 mode uid gid text) q p (fun k => if k = (M : Int) + 1 then bk else nb k) (fun k => if k = (M : Int) + 1 then .slice none 0 0 else ev k) ∧ Tx lo W V4)) := by
      intro V1 P1 nx
      obtain ⟨b1, t1⟩ := unhide hk8 V1 nx
      obtain ⟨T1, X1⟩ := TV.poolT P1 nx
      obtain ⟨T2, X2⟩ := T1.aside b1 hnbk hlbk 8 (I fl)
      obtain ⟨V4, r4, c4, T4, X4⟩ := step (V1.setCell ⟨bk, 8, none⟩ (I fl)) fl T.pool.add (by rw [heap_set b1]; rfl) T2 (X1.trans X2) (fun b cs ty f e ht hne => by
        refine (Below.heap_setCell _ _ _ _ hne).trans ((nx.oth _ _ _ _ e ?_ ?_).trans e.symm) <;> (rcases ht with ht | ht <;> (rw [ht]; decide))) (by simp [World.setCell]; exact nx.bel.size)
      have t2 := T2.ht
      have t3 : ((V1.setCell ⟨bk, 8, none⟩ (I fl)).setCell ⟨t, 1, none⟩ (I ((M : Int) + 1))).heap[t]? = _ := heap_set t2 1 _
      have hme : T.made = M := (unhide HMM).symm
      refine ⟨⟨by rw [cell_of b1]; rfl, frozen_of b1, by rw [cell_of t1, ← hme]; rfl, by rw [cell_of t1]; rfl, frozen_of t1⟩, _, rfl, ⟨by rw [cell_of t2, ← hme]; rfl, by rw [cell_of t2]; rfl, frozen_of t2⟩, _, rfl, ⟨by rw [cell_of t3]; rfl, by rw [cell_of t3]; rfl⟩, V4, r4, c4, ?_, X4⟩
      rw [hme] at T4
      have ha : T.add 2 mode uid gid text = ⟨T.most, M + 1, fun k => if k = (M : Int) + 1 then some ⟨2, bits .and .i64 mode 4095, uid, gid, 0, 0, 0, [], fl, text⟩ else T.nd k, T.pool.add⟩ := by simp [Tr.add, hme, unhide HFL]
      rw [ha]
      exact T4
    clear step TV hbk H hfl HST HTV HBK hk8 hnbk hlbk HK HFL
    go_wp2_with (go_at_call 38; refine (unhide HF).mono ?_; rintro e V1 ⟨rfl, P1, nx⟩; obtain ⟨⟨g1, g2, g3, g4, g5⟩, V2, hV2, ⟨m1, m2, m3⟩, V3, hV3, ⟨n1, n2⟩, V4, r4, o1, FF⟩ := unhide FIN V1 P1 nx; rw [hV2] at hV3; have HV3 := hide hV3; clear P1 nx hV2 hV3 m1 m2 m3)
    rw [show (V1.setCell ⟨bk, 8, none⟩ (I fl)).setCell ⟨t, 1, none⟩ (Value.int IntKind.i64 ((M : Int) + 1)) = V3 from (unhide HV3).symm]
    go_region
    go_wp2_with fail
    go_ret
    exact ⟨rfl, bk, unhide FF⟩
  · have FIN : Hid (∃ V3, V3 = V.setCell ⟨t, 1, none⟩ (I ((M : Int) + 1)) ∧ (V3.cell? ⟨t, 1, none⟩ = some (I ((M : Int) + 1)) ∧ V3.cell? ⟨t, 2, none⟩ = some (.map (some q))) ∧ ∃ V4, (Instr.mapUpdate 55 (.map (some q)) (I ((M : Int) + 1)) (P0 bk)).run Try.prog V3.drew = .ok () V4 ∧ V4.cell? ⟨t, 1, none⟩ = some (I ((M : Int) + 1)) ∧ Hid (TrI lo N V4 t (T.add kind mode uid gid text) q p (fun k => if k = (M : Int) + 1 then bk else nb k) (fun k => if k = (M : Int) + 1 then .slice none 0 0 else ev k) ∧ Tx lo W V4)) := by
      obtain ⟨V4, r4, c4, T4, X4⟩ := step V 0 T.pool hbk TV (.refl TV.bd.2.2.1) (fun b cs ty f e _ _ => rfl) (Nat.le_refl _)
      have t3 : (V.setCell ⟨t, 1, none⟩ (I ((M : Int) + 1))).heap[t]? = _ := heap_set TV.ht 1 _
      have hme : T.made = M := (unhide HMM).symm
      refine ⟨_, rfl, ⟨by rw [cell_of t3]; rfl, by rw [cell_of t3]; rfl⟩, V4, r4, c4, ?_, X4⟩
      rw [hme] at T4
      have ha : T.add kind mode uid gid text = ⟨T.most, M + 1, fun k => if k = (M : Int) + 1 then some ⟨kind, bits .and .i64 mode 4095, uid, gid, 0, 0, 0, [], 0, text⟩ else T.nd k, T.pool⟩ := by simp [Tr.add, hme, hk]
      rw [ha]
      exact T4
    obtain ⟨V3, hV3, ⟨n1, n2⟩, V4, r4, o1, FF⟩ := unhide FIN
    have HV3 := hide hV3
    clear step TV hbk HST HTV HBK hV3 FIN
    go_wp2_with fail
    rw [show V.setCell ⟨t, 1, none⟩ (Value.int IntKind.i64 ((M : Int) + 1)) = V3 from (unhide HV3).symm]
    go_region
    go_wp2_with fail
    go_ret
    exact ⟨rfl, bk, unhide FF⟩
end
end Go.Proofs.Ytlngeaacjbdmhaa
