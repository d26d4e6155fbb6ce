/-
  The contract of links.
-/
import Derived.Test.YtlngeaacjbdmhaaIterO
namespace Go.Proofs.Ytlngeaacjbdmhaa
open Go.RowKit Go.Shelf Go.Maps
attribute [local go_sem] Oper.semAt_some

/-- How many Dirs are among the first i names. -/
def Tr.dirs (T : Tr) (es : Ents) (i : Nat) : Nat := (es.take i).countP fun e => decide (T.kindOf e.2 = 1)
theorem Tr.dirs_succ (T : Tr) {es : Ents} {i : Nat} {e : Ent} (h : es[i]? = some e) : T.dirs es (i + 1) = T.dirs es i + if T.kindOf e.2 = 1 then 1 else 0 := by
  obtain ⟨hl, rfl⟩ := List.getElem?_eq_some_iff.1 h
  simp only [Tr.dirs, List.take_succ_eq_append_getElem hl, List.countP_append, List.countP_cons, List.countP_nil]
  simp
theorem Tr.dirs_le (T : Tr) (es : Ents) (i : Nat) : T.dirs es i ≤ es.length := Nat.le_trans List.countP_le_length (by simp; omega)
structure LJ (w W : World) (r : Loop) (h b t : Nat) (k : Int) : Prop where
  f : Fy w W r h (h + 4) (h + 3) (h + 2) b
  k0 : W.heap[h]? = some (.cells #[P0 t] 23)
  k1 : W.heap[h + 1]? = some (.cells #[.int .i64 k] 3)
theorem LJ.alloc {w W : World} {r : Loop} {h b t : Nat} {k : Int} (J : LJ w W r h b t k) (o : Obj) : LJ w (W.alloc o) r h b t k := by
  have hB : Below W.heap.size W (W.alloc o) := (Below.refl _ _).alloc (Nat.le_refl _) o
  have kp : ∀ {i : Nat} {o' : Obj}, W.heap[i]? = some o' → (W.alloc o).heap[i]? = some o' := fun e => (hB.block _ (lt_of_heap e)).trans e
  exact ⟨⟨kp J.f.l, kp J.f.dd, kp J.f.xx, J.f.be.trans (hB.mono (by have := lt_of_heap J.f.l; omega))⟩, kp J.k0, kp J.k1⟩
section
variable {lo N : Nat} {t : Nat} {T : Tr} {q p : Nat} {nb : Int → Nat} {ev : Int → Value} {B : Nat}
set_option maxRecDepth 100000 in
set_option maxHeartbeats 1000000 in
theorem links_in {w : World} (hT : TrI lo N w t T q p nb ev) (hw : Wk B T) (hB : B ≤ 900) {d : Int} {x : Nd} (hx : T.nd d = some x) (hk : x.kind = 1) (hn : 0 < x.names) :
    CallsIn Fence.wide 4 Try.prog 28 #[P0 t, P0 (nb d)] w fun e w' => e = .returned (I ((2 + T.dirs x.ins x.ins.length : Nat) : Int)) ∧ Below w.heap.size w w' := by
  have hro : Fence.wide.round = none := rfl
  obtain ⟨d0, -, -, -, d4, -, -, d7, -, -, df⟩ := ndcells (hT.hn d x hx).1
  rw [hk] at d0
  have hbl := lt_of_heap (hT.hn d x hx).1
  obtain ⟨b, hb⟩ : ∃ b, b = nb d := ⟨_, rfl⟩
  rw [← hb] at d0 d4 d7 df hbl ⊢
  have hn1 : ¬ ((x.names : Int) = 0) := by omega
  have hl : x.ins.length ≤ 1000 := by have := (hw.bnd d x hx).2.2; omega
  have HT := hide hT
  have HW := hide hw
  have HX := hide hx
  have HD := hide d7
  have hdir := T.dirs_le x.ins
  have HDI := hide hdir
  clear hT hw hx hb d7 hdir
  refine callsIn_of_wp_marks Try.func28 rfl trivial ?_ hro
  simp only [Try.ntmps28, List.size_toArray, List.length_cons, List.length_nil, Nat.reduceAdd, Nat.reduceSub, Array.replicate_succ, Array.replicate_zero, List.push_toArray, List.append_toArray, List.nil_append, List.cons_append]
  gi_wp2_with fail
  refine ⟨trivial, (callsIn_wide.2 (inOrder_any b _)).mono ?_⟩
  rintro e w' ⟨rfl, rfl⟩
  gi_wp2_with fail
  obtain ⟨V, hV, hsz, g0, g1, g2, hB0⟩ := three0 w (.cells #[P0 t] 23) (.cells #[.int .i64 2] 3) (.cells #[.pointer (some ⟨b, 0, none⟩)] 62)
  rw [hV]
  clear hV d0 d4 df
  generalize hh : w.heap.size = h at *
  have HH : Hid (w.heap.size = h) := hh
  refine wpIn_range_own hro (by omega) (gf := 49) (lb := #[.pointer (some ⟨h + 2, 0, none⟩)]) rfl trivial (enters_of Try.func49 (by kernel_rfl) rfl) ?_
  intro r hF hst hpe htm hps has hbo
  obtain ⟨L1, D1, hB2⟩ := setup V r
  rw [hsz] at L1 D1 ⊢
  generalize ((V.alloc (.deferred (some []))).alloc (.loop r)) = W1 at L1 D1 hB2 ⊢
  have J0 : LJ w W1 r h b t ((2 + T.dirs x.ins 0 : Nat) : Int) := ⟨⟨L1, D1, (hB2.block _ (by omega)).trans g2, hB0.trans (hB2.mono (by omega))⟩, (hB2.block _ (by omega)).trans g0, (hB2.block _ (by omega)).trans g1⟩
  clear L1 D1 hB2 g0 g1 g2 hB0
  refine (iter_go (h + 4) (h + 2) b x.ins W1 (fun i W => LJ w W r h b t ((2 + T.dirs x.ins i : Nat) : Int)) ((unhide HT).hn d x (unhide HX)).2 hl J0 (fun i W' J => ⟨by rw [unhide HH]; exact J.f.be, by rw [cell_of J.f.xx]; rfl, (World.cell?_of_block (J.f.be.block b hbl)).trans (unhide HD)⟩) ?_ (fun i W' o J => J.alloc o)).mono ?_
  · intro i W2 a n J hi
    refine yield_own hF hst hpe htm hps has hbo rfl J.f.l ?_
    clear htm hps has hbo hst hpe J0
    intro rb
    gi_wp2
    refine ⟨J.f.l, ?_⟩
    have F4 := J.f.put rb (by omega)
    have k0 := put_other (r' := rb) J.f.l J.k0 (by simp)
    have k1 := put_other (r' := rb) J.f.l J.k1 (by simp)
    have T4 := (unhide HT).below (by rw [unhide HH]; exact F4.be)
    generalize W2.putObj (h + 4) (.loop rb) = W4 at *
    obtain ⟨y, hy⟩ := (unhide HW).ent (unhide HX) (List.mem_of_getElem? hi)
    simp only at hy
    have hlk := T4.look ((unhide HW).wf hB hy)
    rw [hy] at hlk
    simp only [Option.isSome_some, if_true] at hlk
    obtain ⟨y0, -, -, -, -, -, -, -, -, -, -⟩ := ndcells (T4.hn n y hy).1
    obtain ⟨-, -, c2, -, -⟩ := T4.cells
    have e0 : W4.cell? ⟨h, 0, none⟩ = some (P0 t) := by rw [cell_of k0]; rfl
    have hkd : T.kindOf n = y.kind := by simp [Tr.kindOf, hy]
    have hsucc := T.dirs_succ hi
    simp only [hkd] at hsucc
    have hdl := unhide HDI i
    obtain ⟨c, hc⟩ : ∃ c : Nat, c = 2 + T.dirs x.ins i := ⟨_, rfl⟩
    rw [← hc] at k1
    have e1 : W4.cell? ⟨h + 1, 0, none⟩ = some (.int .i64 (c : Int)) := by rw [cell_of k1]; rfl
    have ef : W4.frozen? ⟨h + 1, 0, none⟩ = false := frozen_of k1 0
    have hcl : (c : Int) < 2000 := by omega
    have HF4 := hide F4
    have HK0 := hide k0
    have HK1 := hide k1
    have HS := hide hsucc
    have HC := hide hc
    by_cases hyk : y.kind = 1
    · rw [hyk] at y0
      have hfin : T.dirs x.ins (i + 1) = T.dirs x.ins i + 1 := by rw [unhide HS, if_pos hyk]
      have HFI := hide hfin
      clear J F4 T4 k0 k1 hsucc hc hkd hy hi hdl hfin hyk HS
      refine wpIn_mono (Q := fun e _ w1 => e = Exit.normal ∧ w1 = W4.setCell ⟨h + 1, 0, none⟩ (.int .i64 ((c : Int) + 1))) ?_ ?_
      · gi_wp2_with fail
      · rintro e a1 w1 ⟨rfl, rfl⟩
        have F5 := unhide HF4
        have kp : ∀ {k : Nat} {o : Obj}, W4.heap[k]? = some o → k ≠ h + 1 → (W4.setCell ⟨h + 1, 0, none⟩ (.int .i64 ((c : Int) + 1))).heap[k]? = some o := fun h1 h2 => (Below.heap_setCell _ _ _ _ h2).trans h1
        have F6 : Fy w (W4.setCell ⟨h + 1, 0, none⟩ (.int .i64 ((c : Int) + 1))) rb h (h + 4) (h + 3) (h + 2) b := ⟨kp F5.l (by omega), kp F5.dd (by omega), kp F5.xx (by omega), F5.be.setCell (p := ⟨h + 1, 0, none⟩) (by simp) _⟩
        refine ⟨rfl, F6.l, trivial, ⟨F6.put r (by omega), put_other F6.l (kp (unhide HK0) (by omega)) (by simp), put_other F6.l ?_ (by simp)⟩⟩
        rw [heap_set (unhide HK1), unhide HFI]
        have := unhide HC
        simp
        omega
    · have hfin : T.dirs x.ins (i + 1) = T.dirs x.ins i := by rw [unhide HS, if_neg hyk]; rfl
      have HFI := hide hfin
      clear J F4 T4 k0 k1 hsucc hc hkd hy hi hdl hfin HS
      refine wpIn_mono (Q := fun e _ w1 => e = Exit.normal ∧ w1 = W4) ?_ ?_
      · gi_wp2_with fail
      · rintro e a1 w1 ⟨rfl, rfl⟩
        have F5 := unhide HF4
        refine ⟨rfl, F5.l, trivial, ⟨F5.put r (by omega), put_other F5.l (unhide HK0) (by simp), put_other F5.l ?_ (by simp)⟩⟩
        rw [unhide HK1, unhide HFI, unhide HC]
  · rintro e W2 ⟨rfl, J⟩
    refine ⟨⟨_, rfl⟩, J.f.l, ?_⟩
    have F6 := J.f.put { r with state := .exhausted } (by omega)
    have k1 := put_other (r' := { r with state := .exhausted }) J.f.l J.k1 (by simp)
    generalize W2.putObj (h + 4) (.loop { r with state := .exhausted }) = W3 at F6 k1 ⊢
    have e0 : W3.cell? ⟨h + 1, 0, none⟩ = some (.int .i64 ((2 + T.dirs x.ins x.ins.length : Nat) : Int)) := by rw [cell_of k1]; rfl
    have HD6 := hide F6.dd
    have HB6 := hide F6.be
    clear J J0 F6 k1 htm hps has hbo hst hpe
    gi_wp2_with fail
    refine ⟨by simp, .inl ⟨_, _, rfl, run_takeDeferred (unhide HD6), ?_⟩⟩
    have hb := unhide HB6
    have be7 : Below h w (W3.putObj (h + 3) (.deferred none)) := ⟨hb.os, hb.tape, hb.output, by rw [World.putObj_size]; exact hb.size, fun k hk => (World.putObj_heap_other (by omega)).trans (hb.block k hk)⟩
    rw [unhide HH]
    exact ⟨_, by simp [results, Try.results28, go_sem], rfl, be7⟩
theorem links_any {w : World} (hT : TrI lo N w t T q p nb ev) (hw : Wk B T) (hB : B ≤ 900) {d : Int} {x : Nd} (hx : T.nd d = some x) :
    Calls Try.prog 28 #[P0 t, P0 (nb d)] w fun e w' => e = .returned (I (T.links x : Nat)) ∧ Below w.heap.size w w' := by
  by_cases h : x.kind = 1 ∧ 0 < x.names
  · have e : T.links x = 2 + T.dirs x.ins x.ins.length := by simp [Tr.links, Tr.dirs, h]
    rw [e]
    exact callsIn_wide.1 (links_in hT hw hB hx h.1 h.2)
  · have e : T.links x = x.names := by rw [Tr.links, if_neg h]
    rw [e]
    obtain ⟨d0, -, -, -, d4, -, -, d7, -, -, df⟩ := ndcells (hT.hn d x hx).1
    obtain ⟨b, hb⟩ : ∃ b, b = nb d := ⟨_, rfl⟩
    have hbl := lt_of_heap (hT.hn d x hx).1
    rw [← hb] at d0 d4 d7 df hbl ⊢
    clear hT hw hx e hb d7
    obtain ⟨m, hm⟩ : ∃ m, m = x.names := ⟨_, rfl⟩
    obtain ⟨kd, hkd⟩ : ∃ kd, kd = x.kind := ⟨_, rfl⟩
    rw [← hm] at d4 h ⊢
    rw [← hkd] at d0 h
    clear hm hkd
    by_cases hk : kd = 1
    · obtain rfl : m = 0 := by omega
      subst hk
      clear h
      go_enter Try.func28, Try.ntmps28
      go_wp2_with fail
      go_ret
      exact ⟨rfl, (Below.refl _ _).alloc (Nat.le_refl _) _⟩
    · clear h
      go_enter Try.func28, Try.ntmps28
      go_wp2_with fail
      go_ret
      exact ⟨rfl, (Below.refl _ _).alloc (Nat.le_refl _) _⟩
end
end Go.Proofs.Ytlngeaacjbdmhaa
