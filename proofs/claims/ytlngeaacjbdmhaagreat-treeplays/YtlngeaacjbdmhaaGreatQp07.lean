/-
  The contract of links.
-/
import Derived.Test.YtlngeaacjbdmhaaGreatQp06
import Derived.Deep.RegionWith
namespace Go.Proofs.YtlngeaacjbdmhaaGreat
open Go.RowKit Go.Shelf Go.Maps
attribute [local go_sem] Oper.semAt_some
def Tr.dirs (T : Tr) (es : Ents) (i : Nat) : Nat := (es.take i).countP fun e => decide (T.kindOf e.2 = 1)
theorem Tr.dirs_succ (T : Tr) {es : Ents} {i : Nat} {e : Ent} (h : es[i]? = some e) : T.dirs es (i + 1) = T.dirs es i + if T.kindOf e.2 = 1 then 1 else 0 := by
  obtain ⟨hl, rfl⟩ := List.getElem?_eq_some_iff.1 h
  simp only [Tr.dirs, List.take_succ_eq_append_getElem hl, List.countP_append, List.countP_cons, List.countP_nil]
  simp
theorem Tr.dirs_le (T : Tr) (es : Ents) (i : Nat) : T.dirs es i ≤ es.length := Nat.le_trans List.countP_le_length (by simp; omega)
structure LJ (w W : World) (r : Loop) (h b t : Nat) (k : Int) : Prop where
  f : Fy w W r h (h + 4) (h + 3) (h + 2) b
  k0 : W.heap[h]? = some (.cells #[P0 t] 23)
  k1 : W.heap[h + 1]? = some (.cells #[.int .i64 k] 3)
theorem LJ.alloc {w W : World} {r : Loop} {h b t : Nat} {k : Int} (J : LJ w W r h b t k) (o : Obj) : LJ w (W.alloc o) r h b t k := by
  have hB : Below W.heap.size W (W.alloc o) := (Below.refl _ _).alloc (Nat.le_refl _) o
  have kp : ∀ {i : Nat} {o' : Obj}, W.heap[i]? = some o' → (W.alloc o).heap[i]? = some o' := fun e => (hB.block _ (lt_of_heap e)).trans e
  exact ⟨⟨kp J.f.l, kp J.f.dd, kp J.f.xx, J.f.be.trans (hB.mono (by have := lt_of_heap J.f.l; omega))⟩, kp J.k0, kp J.k1⟩
section
variable {lo N : Nat} {t : Nat} {T : Tr} {q p : Nat} {nb : Int → Nat} {ev : Int → Value} {B : Nat}
set_option maxRecDepth 100000 in
set_option maxHeartbeats 1000000 in
theorem links_in {w : World} (hT : TrI lo N w t T q p nb ev) (hw : Wk B T) (hB : B ≤ 900) {d : Int} {x : Nd} (hx : T.nd d = some x) (hk : x.kind = 1) (hn : 0 < x.names) :
    CallsIn Fence.wide 4 Tryz.prog 108 #[P0 t, P0 (nb d)] w fun e w' => e = .returned (I ((2 + T.dirs x.ins x.ins.length : Nat) : Int)) ∧ Below w.heap.size w w' := by
  have hro : Fence.wide.round = none := rfl
  obtain ⟨d0, -, -, -, d4, -, -, d7, -, -, df⟩ := ndcells (hT.hn d x hx).1
  rw [hk] at d0
  have hbl := lt_of_heap (hT.hn d x hx).1
  obtain ⟨b, hb⟩ : ∃ b, b = nb d := ⟨_, rfl⟩
  rw [← hb] at d0 d4 d7 df hbl ⊢
  have hn1 : ¬ ((x.names : Int) = 0) := by omega
  have hl : x.ins.length ≤ 1000 := by have := (hw.bnd d x hx).2.2; omega
  have HT := hide hT
  have HW := hide hw
  have HX := hide hx
  have HD := hide d7
  have hdir := T.dirs_le x.ins
  have HDI := hide hdir
  clear hT hw hx hb d7 hdir
  refine callsIn_of_wp_marks Tryz.func108 rfl trivial ?_ hro
  simp only [Tryz.ntmps108, List.size_toArray, List.length_cons, List.length_nil, Nat.reduceAdd, Nat.reduceSub, Array.replicate_succ, Array.replicate_zero, List.push_toArray, List.append_toArray, List.nil_append, List.cons_append]
  gi_wp2_with fail
  refine ⟨trivial, (callsIn_wide.2 (inOrder_any b _)).mono ?_⟩
  rintro e w' ⟨rfl, rfl⟩
  gi_wp2_with fail
  obtain ⟨V, hV, hsz, g0, g1, g2, hB0⟩ := three0 w (.cells #[P0 t] 23) (.cells #[.int .i64 2] 3) (.cells #[.pointer (some ⟨b, 0, none⟩)] 130)
  rw [hV]
  clear hV d0 d4 df
  generalize hh : w.heap.size = h at *
  have HH : Hid (w.heap.size = h) := hh
  refine wpIn_range_own hro (by omega) (gf := 208) (lb := #[.pointer (some ⟨h + 2, 0, none⟩)]) rfl trivial (enters_of Tryz.func208 (by kernel_rfl) rfl) ?_
  intro r hF hst hpe htm hps has hbo
  obtain ⟨L1, D1, hB2⟩ := setup V r
  rw [hsz] at L1 D1 ⊢
  generalize ((V.alloc (.deferred (some []))).alloc (.loop r)) = W1 at L1 D1 hB2 ⊢
  have J0 : LJ w W1 r h b t ((2 + T.dirs x.ins 0 : Nat) : Int) := ⟨⟨L1, D1, (hB2.block _ (by omega)).trans g2, hB0.trans (hB2.mono (by omega))⟩, (hB2.block _ (by omega)).trans g0, (hB2.block _ (by omega)).trans g1⟩
  clear L1 D1 hB2 g0 g1 g2 hB0
  refine (iter_go (h + 4) (h + 2) b x.ins W1 (fun i W => LJ w W r h b t ((2 + T.dirs x.ins i : Nat) : Int)) ((unhide HT).hn d x (unhide HX)).2 hl J0 (fun i W' J => ⟨by rw [unhide HH]; exact J.f.be, by rw [cell_of J.f.xx]; rfl, (World.cell?_of_block (J.f.be.block b hbl)).trans (unhide HD)⟩) ?_ (fun i W' o J => J.alloc o)).mono ?_
  · intro i W2 a n J hi
    refine yield_own hF hst hpe htm hps has hbo rfl J.f.l ?_
    clear htm hps has hbo hst hpe J0
    intro rb
    gi_wp2
    refine ⟨J.f.l, ?_⟩
    have F4 := J.f.put rb (by omega)
    have k0 := put_other (r' := rb) J.f.l J.k0 (by simp)
    have k1 := put_other (r' := rb) J.f.l J.k1 (by simp)
    have T4 := (unhide HT).below (by rw [unhide HH]; exact F4.be)
    generalize W2.putObj (h + 4) (.loop rb) = W4 at *
    obtain ⟨y, hy⟩ := (unhide HW).ent (unhide HX) (List.mem_of_getElem? hi)
    simp only at hy
    have hlk := T4.look ((unhide HW).wf hB hy)
    rw [hy] at hlk
    simp only [Option.isSome_some, if_true] at hlk
    obtain ⟨y0, -, -, -, -, -, -, -, -, -, -⟩ := ndcells (T4.hn n y hy).1
    obtain ⟨-, -, c2, -, -⟩ := T4.cells
    have e0 : W4.cell? ⟨h, 0, none⟩ = some (P0 t) := by rw [cell_of k0]; rfl
    have hkd : T.kindOf n = y.kind := by simp [Tr.kindOf, hy]
    have hsucc := T.dirs_succ hi
    simp only [hkd] at hsucc
    have hdl := unhide HDI i
    obtain ⟨c, hc⟩ : ∃ c : Nat, c = 2 + T.dirs x.ins i := ⟨_, rfl⟩
    rw [← hc] at k1
    have e1 : W4.cell? ⟨h + 1, 0, none⟩ = some (.int .i64 (c : Int)) := by rw [cell_of k1]; rfl
    have ef : W4.frozen? ⟨h + 1, 0, none⟩ = false := frozen_of k1 0
    have hcl : (c : Int) < 2000 := by omega
    have HF4 := hide F4
    have HK0 := hide k0
    have HK1 := hide k1
    have HS := hide hsucc
    have HC := hide hc
    by_cases hyk : y.kind = 1
    · rw [hyk] at y0
      have hfin : T.dirs x.ins (i + 1) = T.dirs x.ins i + 1 := by rw [unhide HS, if_pos hyk]
      have HFI := hide hfin
      clear J F4 T4 k0 k1 hsucc hc hkd hy hi hdl hfin hyk HS
      refine wpIn_mono (Q := fun e _ w1 => e = Exit.normal ∧ w1 = W4.setCell ⟨h + 1, 0, none⟩ (.int .i64 ((c : Int) + 1))) ?_ ?_
      · gi_wp2_with fail
      · rintro e a1 w1 ⟨rfl, rfl⟩
        have F5 := unhide HF4
        have kp : ∀ {k : Nat} {o : Obj}, W4.heap[k]? = some o → k ≠ h + 1 → (W4.setCell ⟨h + 1, 0, none⟩ (.int .i64 ((c : Int) + 1))).heap[k]? = some o := fun h1 h2 => (Below.heap_setCell _ _ _ _ h2).trans h1
        have F6 : Fy w (W4.setCell ⟨h + 1, 0, none⟩ (.int .i64 ((c : Int) + 1))) rb h (h + 4) (h + 3) (h + 2) b := ⟨kp F5.l (by omega), kp F5.dd (by omega), kp F5.xx (by omega), F5.be.setCell (p := ⟨h + 1, 0, none⟩) (by simp) _⟩
        refine ⟨rfl, F6.l, trivial, ⟨F6.put r (by omega), put_other F6.l (kp (unhide HK0) (by omega)) (by simp), put_other F6.l ?_ (by simp)⟩⟩
        rw [heap_set (unhide HK1), unhide HFI]
        have := unhide HC
        simp
        omega
    · have hfin : T.dirs x.ins (i + 1) = T.dirs x.ins i := by rw [unhide HS, if_neg hyk]; rfl
      have HFI := hide hfin
      clear J F4 T4 k0 k1 hsucc hc hkd hy hi hdl hfin HS
      refine wpIn_mono (Q := fun e _ w1 => e = Exit.normal ∧ w1 = W4) ?_ ?_
      · gi_wp2_with fail
      · rintro e a1 w1 ⟨rfl, rfl⟩
        have F5 := unhide HF4
        refine ⟨rfl, F5.l, trivial, ⟨F5.put r (by omega), put_other F5.l (unhide HK0) (by simp), put_other F5.l ?_ (by simp)⟩⟩
        rw [unhide HK1, unhide HFI, unhide HC]
  · rintro e W2 ⟨rfl, J⟩
    refine ⟨⟨_, rfl⟩, J.f.l, ?_⟩
    have F6 := J.f.put { r with state := .exhausted } (by omega)
    have k1 := put_other (r' := { r with state := .exhausted }) J.f.l J.k1 (by simp)
    generalize W2.putObj (h + 4) (.loop { r with state := .exhausted }) = W3 at F6 k1 ⊢
    have e0 : W3.cell? ⟨h + 1, 0, none⟩ = some (.int .i64 ((2 + T.dirs x.ins x.ins.length : Nat) : Int)) := by rw [cell_of k1]; rfl
    have HD6 := hide F6.dd
    have HB6 := hide F6.be
    clear J J0 F6 k1 htm hps has hbo hst hpe
    gi_wp2_with fail
    refine ⟨by simp, .inl ⟨_, _, rfl, run_takeDeferred (unhide HD6), ?_⟩⟩
    have hb := unhide HB6
    have be7 : Below h w (W3.putObj (h + 3) (.deferred none)) := ⟨hb.os, hb.tape, hb.output, by rw [World.putObj_size]; exact hb.size, fun k hk => (World.putObj_heap_other (by omega)).trans (hb.block k hk)⟩
    rw [unhide HH]
    exact ⟨_, by simp [results, Tryz.results108, go_sem], rfl, be7⟩
theorem links_any {w : World} (hT : TrI lo N w t T q p nb ev) (hw : Wk B T) (hB : B ≤ 900) {d : Int} {x : Nd} (hx : T.nd d = some x) :
    Calls Tryz.prog 108 #[P0 t, P0 (nb d)] w fun e w' => e = .returned (I (T.links x : Nat)) ∧ Below w.heap.size w w' := by
  by_cases h : x.kind = 1 ∧ 0 < x.names
  · have e : T.links x = 2 + T.dirs x.ins x.ins.length := by simp [Tr.links, Tr.dirs, h]
    rw [e]
    exact callsIn_wide.1 (links_in hT hw hB hx h.1 h.2)
  · have e : T.links x = x.names := by rw [Tr.links, if_neg h]
    rw [e]
    obtain ⟨d0, -, -, -, d4, -, -, d7, -, -, df⟩ := ndcells (hT.hn d x hx).1
    obtain ⟨b, hb⟩ : ∃ b, b = nb d := ⟨_, rfl⟩
    have hbl := lt_of_heap (hT.hn d x hx).1
    rw [← hb] at d0 d4 d7 df hbl ⊢
    clear hT hw hx e hb d7
    obtain ⟨m, hm⟩ : ∃ m, m = x.names := ⟨_, rfl⟩
    obtain ⟨kd, hkd⟩ : ∃ kd, kd = x.kind := ⟨_, rfl⟩
    rw [← hm] at d4 h ⊢
    rw [← hkd] at d0 h
    clear hm hkd
    by_cases hk : kd = 1
    · obtain rfl : m = 0 := by omega
      subst hk
      clear h
      go_enter Tryz.func108, Tryz.ntmps108
      go_wp2_with fail
      go_ret
      exact ⟨rfl, (Below.refl _ _).alloc (Nat.le_refl _) _⟩
    · clear h
      go_enter Tryz.func108, Tryz.ntmps108
      go_wp2_with fail
      go_ret
      exact ⟨rfl, (Below.refl _ _).alloc (Nat.le_refl _) _⟩
end
end Go.Proofs.YtlngeaacjbdmhaaGreat

namespace Go.Proofs.YtlngeaacjbdmhaaGreat
open Go.RowKit Go.Maps
theorem cells7 {W : World} {b : Nat} {a0 a1 a2 a3 a4 a5 a6 : Value} {ty : TypeId} (h : W.heap[b]? = some (.cells #[a0, a1, a2, a3, a4, a5, a6] ty)) : W.cell? ⟨b, 0, none⟩ = some a0 ∧ W.cell? ⟨b, 1, none⟩ = some a1 ∧ W.cell? ⟨b, 2, none⟩ = some a2 ∧ W.cell? ⟨b, 3, none⟩ = some a3 ∧ W.cell? ⟨b, 4, none⟩ = some a4 ∧ W.cell? ⟨b, 5, none⟩ = some a5 ∧ W.cell? ⟨b, 6, none⟩ = some a6 ∧ ∀ i, W.frozen? ⟨b, i, none⟩ = false := by
  refine ⟨?_, ?_, ?_, ?_, ?_, ?_, ?_, frozen_of h⟩ <;> (rw [cell_of h]; rfl)
abbrev stV (a kind mode uid gid f g : Int) : Value := .agg #[I a, I kind, I mode, I uid, I gid, I f, I g]
section
variable {lo N : Nat} {W W' : World} {t : Nat} {T : Tr} {q p : Nat} {nb : Int → Nat} {ev : Int → Value} {B : Nat}
theorem Pl.keepK {base : Bse} {n : Nat} {W W' : World} {p : Nat} {s : S} (h : Pl base n W p s) (hs : W.heap.size ≤ W'.heap.size) (hm : ∀ (b : Nat) (es : Array MapEntry) (k : Nat), W.heap[b]? = some (.map es k) → ¬ base.K b → W'.heap[b]? = W.heap[b]?) (hc : ∀ (b : Nat) (cs : Array Value) (t : TypeId) (f : Nat × Nat), W.heap[b]? = some (.cells cs t f) → t = 202 ∨ t = 261 → W'.heap[b]? = W.heap[b]?) : Pl base n W' p s := by
  obtain ⟨fb, cb, mb, h⟩ := h
  have hM : ∀ {b m f}, Mp W b m f → ¬ base.K b → Mp W' b m f := fun {b m f} hm' hK => hm'.same (by
    obtain ⟨D, ⟨es, k, h1, _⟩, _⟩ := hm'
    exact hm b es k h1 hK)
  exact ⟨fb, cb, mb, (hc _ _ _ _ h.hp (.inl rfl)).trans h.hp, hM h.hf h.bp.2.1.2, fun k x hk => ⟨(hc _ _ _ _ (h.hx k x hk).hc (.inr rfl)).trans (h.hx k x hk).hc, hM (h.hx k x hk).hm (h.bp.2.2 k x hk).2.2, (h.hx k x hk).ok⟩, h.dc, h.df, h.bp, h.bs.mono hs, h.tot, h.nn⟩
theorem TrI.aside (h : TrI lo N W t T q p nb ev) {b0 : Nat} {cs : Array Value} (hb : W.heap[b0]? = some (.cells cs 129)) (hne : ∀ k x, T.nd k = some x → nb k ≠ b0) (hlo : lo ≤ b0) (i : Nat) (v : Value) : TrI lo N (W.setCell ⟨b0, i, none⟩ v) t T q p nb ev ∧ Tx lo W (W.setCell ⟨b0, i, none⟩ v) := by
  have kp : ∀ b, b ≠ b0 → (W.setCell ⟨b0, i, none⟩ v).heap[b]? = W.heap[b]? := fun b hb => Below.heap_setCell _ _ _ _ hb
  have hsz : (W.setCell ⟨b0, i, none⟩ v).heap.size = W.heap.size := by simp [World.setCell]
  have kc : ∀ (b : Nat) (cs : Array Value) (ty : TypeId) (f : Nat × Nat), W.heap[b]? = some (.cells cs ty f) → ty ≠ 129 → (W.setCell ⟨b0, i, none⟩ v).heap[b]? = W.heap[b]? := fun b cs ty f e ht => kp b fun e2 => by rw [e2, hb] at e; cases e; exact ht rfl
  have km : ∀ (b : Nat) (es : Array MapEntry) (k : Nat), W.heap[b]? = some (.map es k) → (W.setCell ⟨b0, i, none⟩ v).heap[b]? = W.heap[b]? := fun b es k e => kp b fun e2 => by rw [e2, hb] at e; cases e
  refine ⟨⟨(kc _ _ _ _ h.ht (by decide)).trans h.ht, h.hm.same ?_, fun k x hk => ⟨(kp _ (hne k x hk)).trans (h.hn k x hk).1, (h.hn k x hk).2.same fun g hg => ?_⟩, h.dn, h.pl.keep (by rw [hsz]; exact Nat.le_refl _) km fun b cs ty f e ht => kc b cs ty f e (by rcases ht with ht | ht <;> (rw [ht]; decide)), ⟨h.bd.1, h.bd.2.1, by rw [hsz]; exact h.bd.2.2.1, h.bd.2.2.2⟩⟩, ⟨(Below.refl _ _).setCell hlo _, fun b cs ty f e _ _ _ h4 _ => (kc b cs ty f e h4).trans e⟩⟩
  · obtain ⟨D, ⟨es, k, h1, _⟩, _⟩ := h.hm
    exact km q es k h1
  · obtain ⟨_, cur, hc⟩ := (h.hn k x hk).2.blk hg
    exact kc _ _ _ _ hc (by decide)
theorem TrI.more (h : TrI lo N W t T q p nb ev) (hw : Wk B T) {x : Nd} {s : S} {b : Nat} (hbs : W.heap.size ≤ b) (hx : W'.heap[b]? = some (.cells (ndC x (.slice none 0 0)) 129)) (hi : x.ins = [])
    (ht : W'.heap[t]? = some (.cells #[I (T.most : Int), I ((T.made + 1 : Nat) : Int), .map (some q), P0 p] 125)) (hm : Mp W' q (T.made + 1 + 1) (upd (fun k => if (T.nd k).isSome = true then some (P0 (nb k)) else none) ((T.made : Int) + 1) (some (P0 b))))
    (hp : Pl ⟨lo, fun b => b = q⟩ N W' p s) (hsz : W.heap.size ≤ W'.heap.size) (hk : ∀ (b : Nat) (cs : Array Value) (ty : TypeId) (f : Nat × Nat), W.heap[b]? = some (.cells cs ty f) → ty = 129 ∨ ty = 256 → W'.heap[b]? = W.heap[b]?) :
    TrI lo N W' t ⟨T.most, T.made + 1, fun k => if k = (T.made : Int) + 1 then some x else T.nd k, s⟩ q p (fun k => if k = (T.made : Int) + 1 then b else nb k) (fun k => if k = (T.made : Int) + 1 then .slice none 0 0 else ev k) := by
  have hno : ∀ k x, T.nd k = some x → k ≠ (T.made : Int) + 1 := fun k x hk e => by have := hw.key k x hk; omega
  refine ⟨ht, hm.congr fun k => ?_, fun k y hy => ?_, fun j k y z hy hz hjk => ?_, hp, ⟨h.bd.1, h.bd.2.1, Nat.le_trans h.bd.2.2.1 hsz, fun k y hy => ?_⟩⟩
  · simp only [upd]
    by_cases e : k = (T.made : Int) + 1
    · simp [e]
    · simp [e]
  · by_cases e : k = (T.made : Int) + 1
    · simp only [if_pos e] at hy ⊢
      cases hy
      refine ⟨hx, ?_⟩
      rw [hi]
      exact ⟨rfl, .inl ⟨rfl, rfl⟩⟩
    · simp only [if_neg e] at hy ⊢
      refine ⟨(hk _ _ _ _ (h.hn k y hy).1 (.inl rfl)).trans (h.hn k y hy).1, (h.hn k y hy).2.same fun g hg => ?_⟩
      obtain ⟨_, cur, hc⟩ := (h.hn k y hy).2.blk hg
      exact hk _ _ _ _ hc (.inr rfl)
  · by_cases e : j = (T.made : Int) + 1
    · by_cases e2 : k = (T.made : Int) + 1
      · exact absurd (e.trans e2.symm) hjk
      · simp only [if_pos e, if_neg e2] at hz ⊢
        have := lt_of_heap (h.hn k z hz).1
        exact ⟨by omega, .inl rfl⟩
    · by_cases e2 : k = (T.made : Int) + 1
      · simp only [if_neg e, if_pos e2] at hy ⊢
        have := lt_of_heap (h.hn j y hy).1
        refine ⟨by omega, ?_⟩
        cases ho : (ev j).ownBlock with
        | none => exact .inl rfl
        | some g => exact .inr (by simp [Value.ownBlock])
      · simp only [if_neg e, if_neg e2] at hy hz ⊢
        exact h.dn j k y z hy hz hjk
  · by_cases e : k = (T.made : Int) + 1
    · simp only [if_pos e]
      exact Nat.le_trans h.bd.2.2.1 hbs
    · simp only [if_neg e] at hy ⊢
      exact h.bd.2.2.2 k y hy
set_option maxRecDepth 100000 in
set_option maxHeartbeats 1000000 in
theorem add_any (h : TrI lo N W t T q p nb ev) (hw : Wk B T) (hB : B ≤ 900) (a kind mode uid gid f g : Int) (text : ByteArray) (hs : text.size ≤ 281474976710656) :
    Calls Tryz.prog 60 #[P0 t, stV a kind mode uid gid f g, .string text] W fun e w' => e = .returned (I ((T.made : Int) + 1)) ∧ ∃ b, TrI lo N w' t (T.add kind mode uid gid text) q p (fun k => if k = (T.made : Int) + 1 then b else nb k) (fun k => if k = (T.made : Int) + 1 then .slice none 0 0 else ev k) ∧ Tx lo W w' := by
  have hcl := hide (fun w => clone_any text w hs)
  obtain ⟨md, hmd⟩ : ∃ md, md = bits .and .i64 mode 4095 := ⟨_, rfl⟩
  have HMD := hide hmd
  have HH := hide h
  have hlo := h.bd.2.2.1
  obtain ⟨M, hM⟩ : ∃ M, M = T.made := ⟨_, rfl⟩
  have hM1 : (M : Int) < 901 := by have := hw.made; omega
  have HMM := hide hM
  have HW := hide hw
  rw [← hM]
  clear h hmd hM hw
  go_enter Tryz.func60, Tryz.ntmps60
  go_wp2_with fail
  obtain ⟨W0, hW0⟩ : ∃ W0, W0 = W.alloc (Obj.cells #[I a, I kind, I mode, I uid, I gid, I f, I g] 33) := ⟨_, rfl⟩
  have hB1 : Below W.heap.size W W0 := by rw [hW0]; exact (Below.refl _ W).alloc (Nat.le_refl _) _
  have hR : W0.heap[W.heap.size]? = some (.cells #[I a, I kind, I mode, I uid, I gid, I f, I g] 33) := by rw [hW0]; exact heap_alloc_new W _
  have hRl := lt_of_heap hR
  rw [← hW0]
  have hcc : Hid (Calls Tryz.prog 119 #[.string text] W0.drew fun e w2 => e = .returned (.string text) ∧ Hid (Below W.heap.size W w2) ∧ w2.heap[W.heap.size]? = some (.cells #[I a, I kind, I mode, I uid, I gid, I f, I g] 33)) := by
    refine (unhide hcl W0.drew).mono ?_
    rintro e w2 ⟨h1, h2⟩
    exact ⟨h1, (below_drew hB1).trans (h2.mono (Nat.le_of_lt hRl)), (h2.block _ hRl).trans hR⟩
  clear hW0
  obtain ⟨R, hRR⟩ : ∃ R, R = W.heap.size := ⟨_, rfl⟩
  have HRR := hide hRR
  rw [← hRR] at hR hcc ⊢
  obtain ⟨-, e1, e2, e3, e4, -, -, -⟩ := cells7 hR
  clear hB1 hR hRl hRR
  go_region_held3 (fun w' => w'.cell? ⟨R, 1, none⟩ = some (I kind) ∧ w'.cell? ⟨R, 2, none⟩ = some (I mode) ∧ w'.cell? ⟨R, 3, none⟩ = some (I uid) ∧ w'.cell? ⟨R, 4, none⟩ = some (I gid)) (go_keep)
    (first
      | (go_at_call 119; refine (unhide hcc).mono ?_; rintro e w2 ⟨rfl, HB2, hR2⟩; obtain ⟨-, f1, f2, f3, f4, -, -, -⟩ := cells7 hR2; clear hR2))
  obtain ⟨V, hV⟩ : ∃ V, V = w2.alloc (Obj.cells (ndC ⟨kind, bits .and .i64 mode 4095, uid, gid, 0, 0, 0, [], 0, text⟩ (.slice none 0 0)) 129) := ⟨_, rfl⟩
  change Exit.then _ _ Exit.normal _ (w2.alloc (Obj.cells (ndC ⟨kind, bits .and .i64 mode 4095, uid, gid, 0, 0, 0, [], 0, text⟩ (.slice none 0 0)) 129))
  rw [← hV]
  have hB2 := unhide HB2
  have hbk : V.heap[w2.heap.size]? = some (.cells (ndC ⟨kind, bits .and .i64 mode 4095, uid, gid, 0, 0, 0, [], 0, text⟩ (.slice none 0 0)) 129) := by rw [hV]; exact heap_alloc_new w2 _
  have hBV : Below W.heap.size W V := by
    rw [hV, ← unhide HRR]
    exact hB2.alloc (by have := hB2.size; rw [← unhide HRR] at this; exact this) _
  have hws : W.heap.size ≤ w2.heap.size := hB2.size
  clear hV
  obtain ⟨bk, hbke⟩ : ∃ bk, bk = w2.heap.size := ⟨_, rfl⟩
  rw [← hbke] at hbk hws ⊢
  have hkeepN : Hid (∀ V4 : World, Tx lo V V4 → Tx lo W V4) := fun V4 h4 => (Tx.of_below hBV hlo).trans h4
  clear hbke hB2 HB2 hcc hcl e1 e2 e3 e4 f1 f2 f3 f4 HRR
  have TV := (unhide HH).below hBV
  have hbks := lt_of_heap hbk
  obtain ⟨c0, c1, c2, c3, cf⟩ := TV.cells
  rw [← unhide HMM] at c1
  have htl := lt_of_heap TV.ht
  have htn : t ≠ bk := fun e => by
    have := TV.ht
    rw [e, hbk] at this
    simp [ndC] at this
  have hqb : q < V.heap.size := TV.hm.lt
  have hqt : q ≠ t := fun e => map_blk TV.hm (by rw [e]; exact TV.ht)
  have hqk : q ≠ bk := fun e => map_blk TV.hm (by rw [e]; exact hbk)
  -- behind File: one counter and one entry
  have step : ∀ (V2 : World) (fl : Int) (s : S), V2.heap[bk]? = some (.cells (ndC ⟨kind, bits .and .i64 mode 4095, uid, gid, 0, 0, 0, [], fl, text⟩ (.slice none 0 0)) 129) → TrI lo N V2 t { T with pool := s } q p nb ev → Tx lo V V2 → (∀ (b : Nat) (cs : Array Value) (ty : TypeId) (f : Nat × Nat), V.heap[b]? = some (.cells cs ty f) → ty = 129 ∨ ty = 256 → b ≠ bk → V2.heap[b]? = V.heap[b]?) → V.heap.size ≤ V2.heap.size →
      ∃ V4, (Instr.mapUpdate 123 (.map (some q)) (I ((M : Int) + 1)) (P0 bk)).run Tryz.prog (V2.setCell ⟨t, 1, none⟩ (I ((M : Int) + 1))).drew = .ok () V4 ∧ V4.cell? ⟨t, 1, none⟩ = some (I ((M : Int) + 1)) ∧ TrI lo N V4 t ⟨T.most, T.made + 1, fun k => if k = (T.made : Int) + 1 then some ⟨kind, bits .and .i64 mode 4095, uid, gid, 0, 0, 0, [], fl, text⟩ else T.nd k, s⟩ q p (fun k => if k = (T.made : Int) + 1 then bk else nb k) (fun k => if k = (T.made : Int) + 1 then .slice none 0 0 else ev k) ∧ Tx lo W V4 := by
    intro V2 fl s h2 T2 X2 K2 Z2
    have ht2 := T2.ht
    have hmade : ({ T with pool := s } : Tr).made = T.made := rfl
    have hM2 : Mp (V2.setCell ⟨t, 1, none⟩ (I ((M : Int) + 1))).drew q (T.made + 1) (fun k => if (T.nd k).isSome = true then some (P0 (nb k)) else none) := T2.hm.same (Below.heap_setCell _ _ _ _ hqt)
    obtain ⟨V4, hrun, M4, F4, hs4⟩ := hM2.store htN (by have := (unhide HW).made; unfold maxLen; omega) (k := (M : Int) + 1) (wf_of (by omega)) (P0 bk)
    have ht3 : (V2.setCell ⟨t, 1, none⟩ (I ((M : Int) + 1))).drew.heap[t]? = some (.cells #[I (T.most : Int), I ((M : Int) + 1), .map (some q), P0 p] 125) := by
      have := heap_set ht2 1 (I ((M : Int) + 1))
      exact this
    have hsz3 : (V2.setCell ⟨t, 1, none⟩ (I ((M : Int) + 1))).drew.heap.size = V2.heap.size := by simp [World.setCell]
    have ht4 : V4.heap[t]? = some (.cells #[I (T.most : Int), I ((M : Int) + 1), .map (some q), P0 p] 125) := (F4.blk t (by rw [hsz3]; exact lt_of_heap ht2) (by simpa using hqt.symm)).trans ht3
    have kp : ∀ b, b ≠ t → b ≠ q → b < V2.heap.size → V4.heap[b]? = V2.heap[b]? := fun b h1 h2 h3 => (F4.blk b (by rw [hsz3]; exact h3) (by simpa using h2)).trans (Below.heap_setCell _ _ _ _ h1)
    refine ⟨V4, hrun, by rw [cell_of ht4]; rfl, ?_, ?_⟩
    · refine TrI.more (unhide HH) (unhide HW) hws ?_ rfl ?_ ?_ ?_ (Nat.le_trans hBV.size (by rw [hs4, hsz3]; exact Z2)) ?_
      · exact (kp bk htn.symm hqk.symm (lt_of_heap h2)).trans h2
      · rw [ht4]
        have := unhide HMM
        simp [this]
      · rw [unhide HMM] at M4
        exact M4
      · exact T2.pl.keepK (by rw [hs4, hsz3]; exact Nat.le_refl _) (fun b es k e hK => kp b (fun e2 => by rw [e2, ht2] at e; cases e) hK (lt_of_heap e)) fun b cs ty f e hty => kp b (fun e2 => by rw [e2, ht2] at e; cases e; rcases hty with hty | hty <;> exact absurd hty (by decide)) (fun e2 => map_blk T2.hm (by rw [← e2]; exact e)) (lt_of_heap e)
      · intro b cs ty f e hty
        have hbl := lt_of_heap e
        have e1 := (hBV.block b hbl).trans e
        have hbt : b ≠ t := fun e2 => by rw [e2, TV.ht] at e1; cases e1; rcases hty with hty | hty <;> exact absurd hty (by decide)
        have hbq : b ≠ q := fun e2 => map_blk TV.hm (by rw [← e2]; exact e1)
        exact (kp b hbt hbq (by have := hBV.size; omega)).trans ((K2 b cs ty f e1 hty (by omega)).trans (hBV.block b hbl))
    · refine unhide hkeepN V4 (X2.trans ⟨?_, ?_⟩)
      · exact ⟨F4.os, F4.tape, F4.output, by have := F4.size; rw [hsz3] at this; exact this, fun k hk => kp k (by have := T2.bd.1; omega) (by have := T2.bd.2.1; omega) (by have := T2.bd.2.2.1; omega)⟩
      · intro b cs ty f e _ _ h3 _ _
        exact (kp b (fun e2 => by rw [e2, ht2] at e; cases e; exact h3 rfl) (fun e2 => map_blk T2.hm (by rw [← e2]; exact e)) (lt_of_heap e)).trans e
  have HST := hide step
  have HTV := hide TV
  have HBK := hide hbk
  have hbk0 : V.cell? ⟨bk, 0, none⟩ = some (I kind) := by rw [cell_of hbk]; rfl
  have HLL : Hid (T.pool.fs.length ≤ B) := (unhide HW).pol
  by_cases hk : kind = 2
  · have H := file_any TV.pl (by have := unhide HLL; omega)
    have hk8 : Hid (∀ V1, Nx ⟨lo, fun b => b = q⟩ V V1 → V1.heap[bk]? = some (.cells (ndC ⟨kind, bits .and .i64 mode 4095, uid, gid, 0, 0, 0, [], 0, text⟩ (.slice none 0 0)) 129) ∧ V1.heap[t]? = some (.cells #[I (T.most : Int), I (T.made : Int), .map (some q), P0 p] 125)) := fun V1 nx => ⟨nx.oth _ _ _ _ hbk (by decide) (by decide), nx.oth _ _ _ _ TV.ht (by decide) (by decide)⟩
    have HF := hide H
    obtain ⟨fl, hfl⟩ : ∃ fl : Int, fl = ((T.pool.fs.length + 1 : Nat) : Int) := ⟨_, rfl⟩
    rw [← hfl] at HF
    have HFL := hide hfl
    have HK := hide hk
    subst hk
    have hnbk : ∀ k x, T.nd k = some x → nb k ≠ bk := fun k x hk => by have := lt_of_heap ((unhide HH).hn k x hk).1; omega
    have hlbk : lo ≤ bk := Nat.le_trans hlo hws
    have FIN : Hid (∀ V1, Pl ⟨lo, fun b => b = q⟩ N V1 p T.pool.add → Nx ⟨lo, fun b => b = q⟩ V V1 → (V1.cell? ⟨bk, 8, none⟩ = some (I 0) ∧ (∀ i, V1.frozen? ⟨bk, i, none⟩ = false) ∧ V1.cell? ⟨t, 1, none⟩ = some (I (M : Int)) ∧ V1.cell? ⟨t, 2, none⟩ = some (.map (some q)) ∧ ∀ i, V1.frozen? ⟨t, i, none⟩ = false) ∧ ∃ V2, V2 = V1.setCell ⟨bk, 8, none⟩ (I fl) ∧ (V2.cell? ⟨t, 1, none⟩ = some (I (M : Int)) ∧ V2.cell? ⟨t, 2, none⟩ = some (.map (some q)) ∧ ∀ i, V2.frozen? ⟨t, i, none⟩ = false) ∧ ∃ V3, V3 = V2.setCell ⟨t, 1, none⟩ (I ((M : Int) + 1)) ∧ (V3.cell? ⟨t, 1, none⟩ = some (I ((M : Int) + 1)) ∧ V3.cell? ⟨t, 2, none⟩ = some (.map (some q))) ∧ ∃ V4, (Instr.mapUpdate 123 (.map (some q)) (I ((M : Int) + 1)) (P0 bk)).run Tryz.prog V3.drew = .ok () V4 ∧ V4.cell? ⟨t, 1, none⟩ = some (I ((M : Int) + 1)) ∧ Hid (TrI lo N V4 t (T.add 2 mode uid gid text) q p (fun k => if k = (M : Int) + 1 then bk else nb k) (fun k => if k = (M : Int) + 1 then .slice none 0 0 else ev k) ∧ Tx lo W V4)) := by
      intro V1 P1 nx
      obtain ⟨b1, t1⟩ := unhide hk8 V1 nx
      obtain ⟨T1, X1⟩ := TV.poolT P1 nx
      obtain ⟨T2, X2⟩ := T1.aside b1 hnbk hlbk 8 (I fl)
      obtain ⟨V4, r4, c4, T4, X4⟩ := step (V1.setCell ⟨bk, 8, none⟩ (I fl)) fl T.pool.add (by rw [heap_set b1]; rfl) T2 (X1.trans X2) (fun b cs ty f e ht hne => by
        refine (Below.heap_setCell _ _ _ _ hne).trans ((nx.oth _ _ _ _ e ?_ ?_).trans e.symm) <;> (rcases ht with ht | ht <;> (rw [ht]; decide))) (by simp [World.setCell]; exact nx.bel.size)
      have t2 := T2.ht
      have t3 : ((V1.setCell ⟨bk, 8, none⟩ (I fl)).setCell ⟨t, 1, none⟩ (I ((M : Int) + 1))).heap[t]? = _ := heap_set t2 1 _
      have hme : T.made = M := (unhide HMM).symm
      refine ⟨⟨by rw [cell_of b1]; rfl, frozen_of b1, by rw [cell_of t1, ← hme]; rfl, by rw [cell_of t1]; rfl, frozen_of t1⟩, _, rfl, ⟨by rw [cell_of t2, ← hme]; rfl, by rw [cell_of t2]; rfl, frozen_of t2⟩, _, rfl, ⟨by rw [cell_of t3]; rfl, by rw [cell_of t3]; rfl⟩, V4, r4, c4, ?_, X4⟩
      rw [hme] at T4
      have ha : T.add 2 mode uid gid text = ⟨T.most, M + 1, fun k => if k = (M : Int) + 1 then some ⟨2, bits .and .i64 mode 4095, uid, gid, 0, 0, 0, [], fl, text⟩ else T.nd k, T.pool.add⟩ := by simp [Tr.add, hme, unhide HFL]
      rw [ha]
      exact T4
    clear step TV hbk H hfl HST HTV HBK hk8 hnbk hlbk HK HFL
    go_wp2_with (go_at_call 120; refine (unhide HF).mono ?_; rintro e V1 ⟨rfl, P1, nx⟩; obtain ⟨⟨g1, g2, g3, g4, g5⟩, V2, hV2, ⟨m1, m2, m3⟩, V3, hV3, ⟨n1, n2⟩, V4, r4, o1, FF⟩ := unhide FIN V1 P1 nx; rw [hV2] at hV3; have HV3 := hide hV3; clear P1 nx hV2 hV3 m1 m2 m3)
    rw [show (V1.setCell ⟨bk, 8, none⟩ (I fl)).setCell ⟨t, 1, none⟩ (Value.int IntKind.i64 ((M : Int) + 1)) = V3 from (unhide HV3).symm]
    go_region
    go_wp2_with fail
    go_ret
    exact ⟨rfl, bk, unhide FF⟩
  · have FIN : Hid (∃ V3, V3 = V.setCell ⟨t, 1, none⟩ (I ((M : Int) + 1)) ∧ (V3.cell? ⟨t, 1, none⟩ = some (I ((M : Int) + 1)) ∧ V3.cell? ⟨t, 2, none⟩ = some (.map (some q))) ∧ ∃ V4, (Instr.mapUpdate 123 (.map (some q)) (I ((M : Int) + 1)) (P0 bk)).run Tryz.prog V3.drew = .ok () V4 ∧ V4.cell? ⟨t, 1, none⟩ = some (I ((M : Int) + 1)) ∧ Hid (TrI lo N V4 t (T.add kind mode uid gid text) q p (fun k => if k = (M : Int) + 1 then bk else nb k) (fun k => if k = (M : Int) + 1 then .slice none 0 0 else ev k) ∧ Tx lo W V4)) := by
      obtain ⟨V4, r4, c4, T4, X4⟩ := step V 0 T.pool hbk TV (.refl TV.bd.2.2.1) (fun b cs ty f e _ _ => rfl) (Nat.le_refl _)
      have t3 : (V.setCell ⟨t, 1, none⟩ (I ((M : Int) + 1))).heap[t]? = _ := heap_set TV.ht 1 _
      have hme : T.made = M := (unhide HMM).symm
      refine ⟨_, rfl, ⟨by rw [cell_of t3]; rfl, by rw [cell_of t3]; rfl⟩, V4, r4, c4, ?_, X4⟩
      rw [hme] at T4
      have ha : T.add kind mode uid gid text = ⟨T.most, M + 1, fun k => if k = (M : Int) + 1 then some ⟨kind, bits .and .i64 mode 4095, uid, gid, 0, 0, 0, [], 0, text⟩ else T.nd k, T.pool⟩ := by simp [Tr.add, hme, hk]
      rw [ha]
      exact T4
    obtain ⟨V3, hV3, ⟨n1, n2⟩, V4, r4, o1, FF⟩ := unhide FIN
    have HV3 := hide hV3
    clear step TV hbk HST HTV HBK hV3 FIN
    go_wp2_with fail
    rw [show V.setCell ⟨t, 1, none⟩ (Value.int IntKind.i64 ((M : Int) + 1)) = V3 from (unhide HV3).symm]
    go_region
    go_wp2_with fail
    go_ret
    exact ⟨rfl, bk, unhide FF⟩
end
end Go.Proofs.YtlngeaacjbdmhaaGreat

namespace Go.Proofs.YtlngeaacjbdmhaaGreat
open Go.RowKit Go.Maps
section
variable {lo N : Nat} {W W' : World} {t : Nat} {T : Tr} {q p : Nat} {nb : Int → Nat} {ev : Int → Value} {B : Nat}
set_option maxRecDepth 100000 in
set_option maxHeartbeats 1000000 in
theorem give_any (h : TrI lo N W t T q p nb ev) {dir n : Int} {d x : Nd} (hwd : (kl dir).wf = true) (hwn : (kl n).wf = true) (hd : T.nd dir = some d) (hx : T.nd n = some x) (hdn : dir ≠ n) (hs : Srt d.ins) (hl : d.ins.length < 900) (hnm : x.names < 900) (s : ByteArray) (hz : s.size ≤ 281474976710656) :
    Calls Tryz.prog 124 #[P0 t, I dir, .string s, I n] W fun e w' => e = .returned (.tuple #[]) ∧ ∃ ev', TrI lo N w' t (T.give dir s n) q p nb ev' ∧ Tx lo W w' := by
  obtain ⟨c0, c1, c2, c3, cf⟩ := h.cells
  have hlk1 := (h.below (below_drew (Below.refl _ W))).look hwd
  have hlk2 := (h.below (below_drew (Below.refl _ W))).look hwn
  rw [hd] at hlk1
  rw [hx] at hlk2
  simp only [Option.isSome_some, if_true] at hlk1 hlk2
  obtain ⟨hb, hr⟩ := h.hn dir d hd
  obtain ⟨hbx, hrx⟩ := h.hn n x hx
  have hne := (h.dn dir n d x hd hx hdn).1
  obtain ⟨b, hbe⟩ : ∃ b, b = nb dir := ⟨_, rfl⟩
  obtain ⟨bx, hbxe⟩ : ∃ bx, bx = nb n := ⟨_, rfl⟩
  rw [← hbe] at hlk1 hb hne
  rw [← hbxe] at hlk2 hbx hne
  obtain ⟨P, hP⟩ : ∃ P, P = pos d.ins s := ⟨_, rfl⟩
  obtain ⟨f, hf⟩ : ∃ f, f = (getE d.ins s).isSome := ⟨_, rfl⟩
  have HP : Hid (∀ k, Calls Tryz.prog 207 #[P0 b, .string s] (W.drewN k) fun e w' => e = .returned (.tuple #[I (P : Int), .bool f]) ∧ Below W.heap.size W w') := fun k => by
    rw [hP, hf]
    exact (place_any (lo := lo) (W := W.drewN k) hb (hr.below (below_n W k)) hs (by omega) s).mono fun e w' ⟨h1, h2⟩ => ⟨h1, (below_n W k).trans h2⟩
  have HC := hide (fun w => clone_any s w hz)
  have hbl := lt_of_heap hb
  have hlo := h.bd.2.2.1
  obtain ⟨L, hL⟩ : ∃ L, L = d.ins.length := ⟨_, rfl⟩
  have hPL : P ≤ L := by rw [hP, hL]; exact pos_le _ _
  obtain ⟨vD, hvD⟩ : ∃ vD, vD = ev dir := ⟨_, rfl⟩
  have hown : vD = .slice none 0 0 ∨ ∃ g cap, vD = .slice (some ⟨g, 0, none⟩) L cap := by
    rw [hvD]
    obtain ⟨-, ⟨e1, _⟩ | ⟨g, cap, cur, e1, _⟩⟩ := hr
    · exact .inl e1
    · exact .inr ⟨g, cap, by rw [e1, hL]⟩
  have HB7 : Hid (∀ w2, Below W.heap.size W w2 → w2.cell? ⟨b, 7, none⟩ = some vD ∧ ∀ i, w2.frozen? ⟨b, i, none⟩ = false) := fun w2 hB2 => by
    obtain ⟨-, -, -, -, -, -, -, d7, -, -, df⟩ := ndcells ((hB2.block _ hbl).trans hb)
    exact ⟨by rw [hvD]; exact d7, df⟩
  have HI : Hid (∀ w2, Below W.heap.size W w2 → Calls Tryz.prog 212 #[vD, .int .i64 (P : Int), .slice (some ⟨w2.heap.size, 0, none⟩) 1 1] (w2.alloc (.cells #[.string s, .int .i64 n] 256)) fun e w3 => ∃ v', (∃ g c, v' = .slice (some ⟨g, 0, none⟩) (L + 1) c) ∧ e = .returned v' ∧ (w3.cell? ⟨b, 7, none⟩ = some vD ∧ ∀ i, w3.frozen? ⟨b, i, none⟩ = false) ∧
      ∃ V5, V5 = w3.setCell ⟨b, 7, none⟩ v' ∧ (V5.cell? ⟨bx, 0, none⟩ = some (I x.kind) ∧ V5.cell? ⟨bx, 4, none⟩ = some (I (x.names : Int)) ∧ V5.cell? ⟨bx, 6, none⟩ = some (I x.up) ∧ ∀ i, V5.frozen? ⟨bx, i, none⟩ = false) ∧ Hid (TrI lo N V5 t (T.set dir (some { d with ins := putE d.ins s n })) q p nb (fun k => if k = dir then v' else ev k) ∧ Tx lo W V5)) := fun w2 hB2 => by
    have hBa : Below W.heap.size W (w2.alloc (.cells #[.string s, .int .i64 n] 256)) := hB2.alloc hB2.size _
    have hvb : (w2.alloc (.cells #[.string s, .int .i64 n] 256)).heap[w2.heap.size]? = some (.cells #[.string s, .int .i64 n] 256) := heap_alloc_new w2 _
    have hown2 : Ro lo (w2.alloc (.cells #[.string s, .int .i64 n] 256)) (ev dir) d.ins := hr.below hBa
    have hnv : some w2.heap.size ≠ (ev dir).ownBlock := fun e => by
      obtain ⟨_, cur, hc⟩ := hr.blk e.symm
      have := lt_of_heap hc
      have := hB2.size
      omega
    have hI := insert_any lo (ev dir) d.ins.length P d.ins s n w2.heap.size _ rfl hown2 (by omega) hnv hvb (by omega) (Nat.le_trans hlo hBa.size)
    rw [← hvD] at hI
    refine hI.mono ?_
    rintro e w3 ⟨v', rfl, ins⟩
    rw [hvD] at ins
    have hbb : (w2.alloc (.cells #[.string s, .int .i64 n] 256)).heap[b]? = some (.cells (ndC d (ev dir)) 129) := (hBa.block _ hbl).trans hb
    have hno : ∀ (k : Nat) (cs : Array Value), W.heap[k]? = some (.cells cs 129) → some k ≠ (ev dir).ownBlock := fun k cs e => h.own hd e (by decide)
    have h3b : w3.heap[b]? = some (.cells (ndC d (ev dir)) 129) := (ins.gr.block b (lt_of_heap hbb) (hno b _ hb)).trans hbb
    have FN : Fn (nb dir) (ev dir).ownBlock W (w3.setCell ⟨nb dir, 7, none⟩ v') := ((Fn.of_below hBa).grown ins.gr).set 7 v'
    have hy : (w3.setCell ⟨nb dir, 7, none⟩ v').heap[nb dir]? = some (.cells (ndC { d with ins := putE d.ins s n } v') 129) := by
      rw [← hbe, heap_set h3b]; rfl
    have hr5 : Ro lo (w3.setCell ⟨nb dir, 7, none⟩ v') v' (putE d.ins s n) := by
      have h1 : Ro lo w3 v' (putE d.ins s n) := by
        have := ins.own
        rw [← ins.len, hP] at this
        exact this
      refine h1.same fun g hg => Below.heap_setCell _ _ _ _ fun e => ?_
      obtain ⟨_, cur, hc⟩ := h1.blk hg
      rw [show g = b from e.trans hbe.symm, h3b] at hc
      simp [ndC] at hc
    obtain ⟨T5, X5⟩ := h.turn hd FN hy hr5 (by
      rcases ins.at' with e | e
      · exact .inl e
      · exact .inr ⟨_, e, hBa.size⟩)
    have hbx5 : (w3.setCell ⟨b, 7, none⟩ v').heap[bx]? = some (.cells (ndC x (ev n)) 129) := by
      rw [hbe, hbxe]
      have := (T5.hn n x (by rw [Tr.set_other _ _ (Ne.symm hdn)]; exact hx)).1
      simp only [if_neg (Ne.symm hdn)] at this
      exact this
    obtain ⟨y0, -, -, -, y4, -, y6, -, -, -, yf⟩ := ndcells hbx5
    obtain ⟨-, -, -, -, -, -, -, z7, -, -, zf⟩ := ndcells h3b
    have hform : ∃ g c, v' = .slice (some ⟨g, 0, none⟩) (L + 1) c := by
      obtain ⟨-, ⟨_, hz⟩ | ⟨g, cap, cur, e1, _⟩⟩ := ins.own
      · omega
      · exact ⟨g, cap, by rw [e1, hL]⟩
    refine ⟨v', hform, rfl, ⟨by rw [hvD]; exact z7, zf⟩, _, rfl, ⟨y0, y4, y6, yf⟩, ?_⟩
    rw [hbe]
    exact ⟨T5, X5⟩
  have FIN : Hid (∀ V5 v', TrI lo N V5 t (T.set dir (some { d with ins := putE d.ins s n })) q p nb (fun k => if k = dir then v' else ev k) ∧ Tx lo W V5 → ∀ V6, (x.kind = 1 → V6 = (V5.setCell ⟨bx, 4, none⟩ (I ((x.names : Int) + 1))).setCell ⟨bx, 6, none⟩ (I dir)) → (x.kind ≠ 1 → V6 = V5.setCell ⟨bx, 4, none⟩ (I ((x.names : Int) + 1))) → ∃ ev', TrI lo N V6 t (T.give dir s n) q p nb ev' ∧ Tx lo W V6) := by
    rintro V5 v' ⟨T5, X5⟩ V6 h1 h2
    have hx5 : (T.set dir (some { d with ins := putE d.ins s n })).nd n = some x := by rw [Tr.set_other _ _ (Ne.symm hdn)]; exact hx
    obtain ⟨hbx5, hr5⟩ := T5.hn n x hx5
    rw [← hbxe] at hbx5
    have hg : T.give dir s n = (T.set dir (some { d with ins := putE d.ins s n })).set n (some (x.named dir)) := by simp [Tr.give, hd, hx]
    rw [hg]
    by_cases hk : x.kind = 1
    · rw [h1 hk]
      have hb6 := heap_set (heap_set hbx5 4 (I ((x.names : Int) + 1))) 6 (I dir)
      obtain ⟨T6, X6⟩ := T5.turn (y := x.named dir) (v := if n = dir then v' else ev n) hx5 (W' := (V5.setCell ⟨nb n, 4, none⟩ (I ((x.names : Int) + 1))).setCell ⟨nb n, 6, none⟩ (I dir)) (((Fn.refl _ _ _).set 4 _).set 6 _) (by rw [← hbxe, hb6]; simp [ndC, Nd.named, hk]) (hr5.same fun g hg => (Below.heap_setCell _ _ _ _ (fun e => by obtain ⟨_, cur, hc⟩ := hr5.blk hg; rw [show g = bx from e.trans hbxe.symm, hbx5] at hc; simp [ndC] at hc)).trans (Below.heap_setCell _ _ _ _ (fun e => by obtain ⟨_, cur, hc⟩ := hr5.blk hg; rw [show g = bx from e.trans hbxe.symm, hbx5] at hc; simp [ndC] at hc))) (.inl rfl)
      rw [hbxe]
      exact ⟨_, T6, X5.trans X6⟩
    · rw [h2 hk]
      have hb6 := heap_set hbx5 4 (I ((x.names : Int) + 1))
      obtain ⟨T6, X6⟩ := T5.turn (y := x.named dir) (v := if n = dir then v' else ev n) hx5 (W' := V5.setCell ⟨nb n, 4, none⟩ (I ((x.names : Int) + 1))) ((Fn.refl _ _ _).set 4 _) (by rw [← hbxe, hb6]; simp [ndC, Nd.named, hk]) (hr5.same fun g hg => Below.heap_setCell _ _ _ _ (fun e => by obtain ⟨_, cur, hc⟩ := hr5.blk hg; rw [show g = bx from e.trans hbxe.symm, hbx5] at hc; simp [ndC] at hc)) (.inl rfl)
      rw [hbxe]
      exact ⟨_, T6, X5.trans X6⟩
  obtain ⟨m, hm⟩ : ∃ m, m = x.names := ⟨_, rfl⟩
  obtain ⟨kd, hkd⟩ : ∃ kd, kd = x.kind := ⟨_, rfl⟩
  rw [← hm] at HI FIN
  rw [← hkd] at HI FIN
  have hm1 : (m : Int) < 900 := by omega
  have q0 : (0 : Int) ≤ (P : Int) := by omega
  clear h hd hx hb hr hbx hrx hP hf hm hkd hbe hbxe hs hl hnm hL hvD
  go_enter Tryz.func124, Tryz.ntmps124
  go_wp2_with fail
  go_region
  go_wp2_with (go_at_call 207; refine (unhide HP 1).mono ?_; rintro e V ⟨rfl, hBV⟩; obtain ⟨v7, vf⟩ := unhide HB7 V hBV; have HBV := hide hBV; clear hBV)
  have HC1 : Hid (Calls Tryz.prog 119 #[.string s] V.drew fun e w2 => e = .returned (.string s) ∧ (w2.cell? ⟨b, 7, none⟩ = some vD ∧ b < w2.heap.size ∧ ∀ i, w2.frozen? ⟨b, i, none⟩ = false) ∧ Hid (Below W.heap.size W w2)) := by
    refine (unhide HC V.drew).mono ?_
    rintro e w2 ⟨h1, h2⟩
    have hB2 := (below_drew (unhide HBV)).trans (h2.mono (unhide HBV).size)
    exact ⟨h1, ⟨(unhide HB7 w2 hB2).1, Nat.lt_of_lt_of_le hbl hB2.size, (unhide HB7 w2 hB2).2⟩, hB2⟩
  clear hown c0 c1 c2 c3 cf hlk1 hlk2
  by_cases hk : kd = 1
  · go_region_with (first
      | (go_at_call 119; refine (unhide HC1).mono ?_; rintro e w2 ⟨rfl, ⟨y7, yl, yf⟩, HB2⟩)
      | (go_at_call 212; refine (unhide HI w2 (unhide HB2)).mono ?_; rintro e w3 ⟨v', ⟨g, c, rfl⟩, rfl, ⟨x7, xf⟩, V5, hV5, ⟨z0, z4, z6, zf⟩, FF⟩))
    all_goals
      rw [← hV5]
      clear hV5
      go_wp2_with fail
      go_end0
      exact ⟨rfl, unhide FIN V5 _ (unhide FF) _ (fun _ => rfl) (fun h => absurd hk h)⟩
  · go_region_with (first
      | (go_at_call 119; refine (unhide HC1).mono ?_; rintro e w2 ⟨rfl, ⟨y7, yl, yf⟩, HB2⟩)
      | (go_at_call 212; refine (unhide HI w2 (unhide HB2)).mono ?_; rintro e w3 ⟨v', ⟨g, c, rfl⟩, rfl, ⟨x7, xf⟩, V5, hV5, ⟨z0, z4, z6, zf⟩, FF⟩))
    all_goals
      rw [← hV5]
      clear hV5
      go_wp2_with fail
      go_end0
      exact ⟨rfl, unhide FIN V5 _ (unhide FF) _ (fun h => absurd h hk) (fun _ => rfl)⟩
end
end Go.Proofs.YtlngeaacjbdmhaaGreat
