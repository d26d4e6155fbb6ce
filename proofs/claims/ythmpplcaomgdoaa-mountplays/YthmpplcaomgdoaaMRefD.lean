/-
  The document's New, Bind, Unbind.
-/
import Derived.Test.YthmpplcaomgdoaaMRefP
import Derived.Deep.RegionLaw
namespace Go.Proofs.Ythmpplcaomgdoaa.Mt
open Go.RowKit
attribute [local go_sem ↓] Go.wp_at_zero Go.wp_at_succ

theorem infoR : (Try.prog.info? 70).map (fun i => (i.zero, i.size, i.bytes)) = some (some (.agg #[I 0, I 0, I 0, .bool false]), 4, 32) := by kernel_rfl
/-- What a call of the document's may have changed: block b, and rows of its mounts. -/
structure Fq (base b : Nat) (w w' : World) : Prop where
  os : w'.os = w.os
  tape : w'.tape = w.tape
  output : w'.output = w.output
  size : w.heap.size ≤ w'.heap.size
  low : ∀ k, k < base → w'.heap[k]? = w.heap[k]?
  blk : ∀ (k : Nat) (o : Obj), w.heap[k]? = some o → k ≠ b → (∀ cur, o ≠ .cells cur 70 (0, 0)) → w'.heap[k]? = some o
theorem Fq.of_below {base b : Nat} {w w' : World} (h : Below w.heap.size w w') (hb : base ≤ w.heap.size) : Fq base b w w' :=
  ⟨h.os, h.tape, h.output, h.size, fun k hk => h.block k (by omega), fun k _ hk _ _ => (h.block k (lt_of_heap hk)).trans hk⟩
theorem Fq.trans {base b : Nat} {u v w : World} (h : Fq base b u v) (g : Fq base b v w) : Fq base b u w :=
  ⟨g.os.trans h.os, g.tape.trans h.tape, g.output.trans h.output, Nat.le_trans h.size g.size, fun k hk => (g.low k hk).trans (h.low k hk), fun k o h1 h2 h3 => g.blk k o (h.blk k o h1 h2 h3) h2 h3⟩
theorem Fq.below {base b : Nat} {w w' : World} (h : Fq base b w w') : Below base w w' := ⟨h.os, h.tape, h.output, h.size, h.low⟩
theorem Rs.base_le {base : Nat} {W : World} {b : Nat} {rs : List Rm} (h : Rs base W b rs) : base ≤ W.heap.size := by have := h.lt; have := h.kb; omega
set_option maxHeartbeats 400000 in
theorem rnew_any (r : Int) (w : World) :
    Calls Try.prog 17 #[I r] w fun e w' => e = .returned (.pointer (some ⟨w.heap.size + 1, 0, none⟩)) ∧ Rs w.heap.size w' (w.heap.size + 1) [⟨0, 0, r, true⟩] ∧ Below w.heap.size w w' := by
  go_enter Try.func17, Try.ntmps17
  go_wp2_with fail
  go_ret
  refine ⟨rfl, ⟨⟨some ⟨w.heap.size, 0, none⟩, 1, putAll _ _ (by simp), ⟨rfl, .inr ⟨w.heap.size, 1, _, rfl, Nat.le_refl _, (Below.heap_alloc _ _ _ (by simp)).trans (putAll _ _ rfl), Nat.le_refl _, by decide, rfl, rfl⟩⟩⟩, by omega, by simp⟩, ((Below.refl _ w).alloc (Nat.le_refl _) _).alloc (by simp) _⟩
/-- One mount more behind the others. -/
theorem rpush {base : Nat} {X : World} {b : Nat} {rs : List Rm} (p : Rm) (L : Rs base X b rs) (hl : rs.length ≤ 1000) {a : Option Addr} {m cap : Nat} (a1 : X.cell? ⟨b, 0, none⟩ = some (.slice a m cap)) :
    ∃ (a' : Option Addr) (cap' : Nat) (W5 : World), (Builtin.append_ #[71, 71] 71 #[.slice a m cap, .slice (some ⟨X.heap.size, 0, none⟩) 1 1]).run Try.prog (X.alloc (.cells #[I p.am, I p.an, I p.nd, .bool p.lv] 70)) = .ok (.slice a' (m + 1) cap') W5 ∧
      W5.cell? ⟨b, 0, none⟩ = some (.slice a m cap) ∧ W5.frozen? ⟨b, 0, none⟩ = false ∧ Rs base (W5.setCell ⟨b, 0, none⟩ (.slice a' (m + 1) cap')) b (rs ++ [p]) ∧ Fq base b X (W5.setCell ⟨b, 0, none⟩ (.slice a' (m + 1) cap')) := by
  obtain ⟨i0, hi, hz0, hz1, hz2⟩ := info_parts infoR
  obtain ⟨a2, cap2, h1, own⟩ := L.hb
  have e1 : X.cell? ⟨b, 0, none⟩ = some (.slice a2 rs.length cap2) := by rw [cell_of h1]; rfl
  rw [a1] at e1
  simp only [Option.some.injEq, Value.slice.injEq] at e1
  obtain ⟨rfl, rfl, rfl⟩ := e1
  have own5 := own_keep (W' := X.alloc (.cells #[I p.am, I p.an, I p.nd, .bool p.lv] 70)) own (fun k cur hc => Below.heap_alloc X _ _ (lt_of_heap hc))
  obtain ⟨v', W5, hrun, own7, hgr, -, -⟩ := run_append_own_at (P := Try.prog) (X.alloc (.cells #[I p.am, I p.an, I p.nd, .bool p.lv] 70)) base 71 71 70 i0 _ 4 32 Try.underlying71 hi hz0 hz1 hz2 rfl (by decide) (.slice a rs.length cap) _ _ own5 ⟨X.heap.size, 0, none⟩ 1 1 (rrow p) rfl (by
    intro j u hj
    rw [Addr.add_lit, cell_of (putAll _ _ rfl)]
    simpa [rrow] using hj) (by intro u hu; simp [rrow] at hu; rcases hu with rfl | rfl | rfl | rfl <;> rfl) (by unfold maxLen; omega) (by omega) (by simp; have := L.base_le; omega)
  obtain ⟨a', cap', rfl⟩ := own_form own7
  have hbA : (X.alloc (.cells #[I p.am, I p.an, I p.nd, .bool p.lv] 70)).heap[b]? = some (.cells #[.slice a rs.length cap] 73) := (Below.heap_alloc _ _ _ L.lt).trans h1
  have hb5 : W5.heap[b]? = some (.cells #[.slice a rs.length cap] 73) := (hgr.block b (lt_of_heap hbA) (own_ne own5 hbA (by simp))).trans hbA
  have hself : ∀ j, j ≠ b → (W5.setCell ⟨b, 0, none⟩ (.slice a' (rs.length + 1) cap')).heap[j]? = W5.heap[j]? := fun j hj => Below.heap_setCell _ _ _ _ hj
  refine ⟨a', cap', W5, hrun, by rw [cell_of hb5]; rfl, frozen_of hb5 0, ⟨⟨a', cap', ?_, ?_⟩, L.kb, by simp⟩, ?_⟩
  · rw [heap_set hb5]; simp
  · rw [List.length_append, rowsOf_append]
    refine own_keep own7 fun j cur hc => hself j ?_
    rintro rfl
    rw [hb5] at hc
    simp at hc
  · have b1 : Below base X (X.alloc (.cells #[I p.am, I p.an, I p.nd, .bool p.lv] 70)) := ((Below.refl _ X).alloc (Nat.le_refl _) _).mono L.base_le
    have b2 := below_grown b1 own5 hgr (by simp; have := L.base_le; omega)
    refine ⟨b2.os, b2.tape, b2.output, by have := b2.size; simp [World.setCell]; omega, fun j hj => (hself j (by have := L.kb; omega)).trans (b2.block j hj), fun j o g1 g2 g3 => ?_⟩
    have hkA : (X.alloc (.cells #[I p.am, I p.an, I p.nd, .bool p.lv] 70)).heap[j]? = some o := (Below.heap_alloc _ _ _ (lt_of_heap g1)).trans g1
    rw [hself j g2, hgr.block j (lt_of_heap hkA) (own_ne own5 hkA g3), hkA]
section
variable {B : Int} {t : T} {rs : List Rm} {base b : Nat} {w : World}
theorem rbind_no (h : RT t rs) (hw : Wf B t) (hR : Rs base w b rs) (hl : rs.length ≤ 100) (am an nd k : Int) (hk : bindE t.es am an = k) (h0 : k ≠ 0) :
    Calls Try.prog 18 #[.pointer (some ⟨b, 0, none⟩), pv am an, I nd] w fun e w' => e = .returned (.tuple #[I 0, I k]) ∧ Below w.heap.size w w' := by
  obtain ⟨V, hV, hs, hx, hb⟩ : ∃ V, w.alloc (.cells #[I am, I an] 29) = V ∧ V.heap.size = w.heap.size + 1 ∧ V.heap[w.heap.size]? = some (.cells #[I am, I an] 29) ∧ Below w.heap.size w V := ⟨_, rfl, by simp, putAll _ _ rfl, below_alloc _ _⟩
  obtain ⟨v0, v1⟩ := cells2 hx
  have H1 := hide (ris_any base b rs am V (hR.below hb))
  have H2 := hide (over_any base b rs am an V (hR.below hb) (by omega))
  have H3 := hide (fun W (hB : Below V.heap.size V W) => rlist_any base b rs W ((hR.below hb).below hB) (by omega))
  have HO := hide (fun r (ho : Ov rs (lvAt am an) r) => h.over hw ho)
  rw [h.is hw] at H1
  rw [h.list hw] at H3
  have hlst : (lst t.es).length = 1 + t.es.length := by simp [lst]; omega
  have hnum := fun (ha : any t.es (isAt am an) = true) => hw.num _ (fst_mem ha).1
  unfold bindE at hk
  have HB := hide hb
  clear hR hb hx h hw
  unfold pv
  go_enter Try.func18, Try.ntmps18
  go_wp2_with fail
  refine (unhide H1).mono ?_
  rintro e w1 ⟨rfl, hw1⟩
  rw [hw1]
  clear hw1 H1
  cases hy1 : rootIs t.es am with
  | false =>
    rw [hy1] at hk
    obtain rfl : 1 = k := by simpa using hk
    clear H2 H3 HO hk h0 hy1 hnum
    go_wp2_with fail
    go_ret2
    exact ⟨rfl, unhide HB⟩
  | true =>
    rw [hy1] at hk
    go_wp2_with fail
    refine (unhide H2).mono ?_
    rintro e w2 ⟨⟨r, ho, rfl⟩, hB2⟩
    have hr := unhide HO r ho
    have HB2 := hide ((unhide HB).trans (hB2.mono (by omega)))
    cases hy2 : any t.es (isAt am an) with
    | true =>
      rw [hy2] at hr hk
      obtain rfl : 15 = k := by simpa using hk
      have hp : (0 : Int) ≤ r := by simp only [if_true] at hr; rw [hr]; have := hnum hy2; omega
      clear H3 HO hk h0 hy1 hy2 hr ho hB2 hnum
      go_wp2_with fail
      go_ret2
      exact ⟨rfl, unhide HB2⟩
    | false =>
      rw [hy2] at hr hk
      obtain rfl : r = -1 := by simpa using hr
      have hl8 : 8 ≤ 1 + (t.es.length : Int) := by
        refine Decidable.byContradiction fun h' => h0 ?_
        simp [h'] at hk
        exact hk.symm
      obtain rfl : 13 = k := by simpa [hl8] using hk
      have H3' := hide (unhide H3 w2 hB2)
      clear H3 HO hk h0 hy1 hy2 hr ho hnum v0 v1 hV
      go_wp2_with fail
      refine (unhide H3').mono ?_
      rintro e w3 ⟨v, rfl, own, hB3⟩
      obtain ⟨a, cp, rfl⟩ := own_form own
      have HB3 := hide ((unhide HB2).trans (hB3.mono (unhide HB2).size))
      have q8 : (8 : Int) ≤ ((lst t.es).length : Int) := by omega
      clear own hB3 hB2 H3'
      generalize (lst t.es).length = n at *
      go_wp2_with fail
      go_ret2
      exact ⟨rfl, unhide HB3⟩
end
end Go.Proofs.Ythmpplcaomgdoaa.Mt
