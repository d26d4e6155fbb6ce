/-
  The document's New, Bind, Unbind.
-/
import Derived.Test.YtlngeaacjbdmhaaGreatMr24
import Derived.Deep.RegionLaw
import Derived.Test.YtlngeaacjbdmhaaGreatRows
import Derived.WalkKit
import Derived.Test.YtlngeaacjbdmhaaGreatMr02
import Derived.Test.YtlngeaacjbdmhaaGreatMr15
import Derived.Test.YtlngeaacjbdmhaaGreatMr16
import Derived.Lib.Builder
import Derived.Lib.AppendStr
import Derived.Lib.UnsafeStr
import Derived.Laws.Externs
namespace Go.Proofs.YtlngeaacjbdmhaaGreat.Mt
open Go.RowKit
attribute [local go_sem ↓] Go.wp_at_zero Go.wp_at_succ
theorem infoR : (Tryz.prog.info? 223).map (fun i => (i.zero, i.size, i.bytes)) = some (some (.agg #[I 0, I 0, I 0, .bool false]), 4, 32) := by kernel_rfl
/-- What a call of the document's may have changed: block b, and rows of its mounts. -/
structure Fq (base b : Nat) (w w' : World) : Prop where
  os : w'.os = w.os
  tape : w'.tape = w.tape
  output : w'.output = w.output
  size : w.heap.size ≤ w'.heap.size
  low : ∀ k, k < base → w'.heap[k]? = w.heap[k]?
  blk : ∀ (k : Nat) (o : Obj), w.heap[k]? = some o → k ≠ b → (∀ cur, o ≠ .cells cur 223 (0, 0)) → w'.heap[k]? = some o
theorem Fq.of_below {base b : Nat} {w w' : World} (h : Below w.heap.size w w') (hb : base ≤ w.heap.size) : Fq base b w w' :=
  ⟨h.os, h.tape, h.output, h.size, fun k hk => h.block k (by omega), fun k _ hk _ _ => (h.block k (lt_of_heap hk)).trans hk⟩
theorem Fq.trans {base b : Nat} {u v w : World} (h : Fq base b u v) (g : Fq base b v w) : Fq base b u w :=
  ⟨g.os.trans h.os, g.tape.trans h.tape, g.output.trans h.output, Nat.le_trans h.size g.size, fun k hk => (g.low k hk).trans (h.low k hk), fun k o h1 h2 h3 => g.blk k o (h.blk k o h1 h2 h3) h2 h3⟩
theorem Fq.below {base b : Nat} {w w' : World} (h : Fq base b w w') : Below base w w' := ⟨h.os, h.tape, h.output, h.size, h.low⟩
theorem Rs.base_le {base : Nat} {W : World} {b : Nat} {rs : List Rm} (h : Rs base W b rs) : base ≤ W.heap.size := by have := h.lt; have := h.kb; omega
set_option maxHeartbeats 400000 in
theorem rnew_any (r : Int) (w : World) :
    Calls Tryz.prog 97 #[I r] w fun e w' => e = .returned (.pointer (some ⟨w.heap.size + 1, 0, none⟩)) ∧ Rs w.heap.size w' (w.heap.size + 1) [⟨0, 0, r, true⟩] ∧ Below w.heap.size w w' := by
  go_enter Tryz.func97, Tryz.ntmps97
  go_wp2_with fail
  go_ret
  refine ⟨rfl, ⟨⟨some ⟨w.heap.size, 0, none⟩, 1, putAll _ _ (by simp), ⟨rfl, .inr ⟨w.heap.size, 1, _, rfl, Nat.le_refl _, (Below.heap_alloc _ _ _ (by simp)).trans (putAll _ _ rfl), Nat.le_refl _, by decide, rfl, rfl⟩⟩⟩, by omega, by simp⟩, ((Below.refl _ w).alloc (Nat.le_refl _) _).alloc (by simp) _⟩
/-- One mount more behind the others. -/
theorem rpush {base : Nat} {X : World} {b : Nat} {rs : List Rm} (p : Rm) (L : Rs base X b rs) (hl : rs.length ≤ 1000) {a : Option Addr} {m cap : Nat} (a1 : X.cell? ⟨b, 0, none⟩ = some (.slice a m cap)) :
    ∃ (a' : Option Addr) (cap' : Nat) (W5 : World), (Builtin.append_ #[224, 224] 224 #[.slice a m cap, .slice (some ⟨X.heap.size, 0, none⟩) 1 1]).run Tryz.prog (X.alloc (.cells #[I p.am, I p.an, I p.nd, .bool p.lv] 223)) = .ok (.slice a' (m + 1) cap') W5 ∧
      W5.cell? ⟨b, 0, none⟩ = some (.slice a m cap) ∧ W5.frozen? ⟨b, 0, none⟩ = false ∧ Rs base (W5.setCell ⟨b, 0, none⟩ (.slice a' (m + 1) cap')) b (rs ++ [p]) ∧ Fq base b X (W5.setCell ⟨b, 0, none⟩ (.slice a' (m + 1) cap')) := by
  obtain ⟨i0, hi, hz0, hz1, hz2⟩ := info_parts infoR
  obtain ⟨a2, cap2, h1, own⟩ := L.hb
  have e1 : X.cell? ⟨b, 0, none⟩ = some (.slice a2 rs.length cap2) := by rw [cell_of h1]; rfl
  rw [a1] at e1
  simp only [Option.some.injEq, Value.slice.injEq] at e1
  obtain ⟨rfl, rfl, rfl⟩ := e1
  have own5 := own_keep (W' := X.alloc (.cells #[I p.am, I p.an, I p.nd, .bool p.lv] 223)) own (fun k cur hc => Below.heap_alloc X _ _ (lt_of_heap hc))
  obtain ⟨v', W5, hrun, own7, hgr, -, -⟩ := run_append_own_at (P := Tryz.prog) (X.alloc (.cells #[I p.am, I p.an, I p.nd, .bool p.lv] 223)) base 224 224 223 i0 _ 4 32 Tryz.underlying224 hi hz0 hz1 hz2 rfl (by decide) (.slice a rs.length cap) _ _ own5 ⟨X.heap.size, 0, none⟩ 1 1 (rrow p) rfl (by
    intro j u hj
    rw [Addr.add_lit, cell_of (putAll _ _ rfl)]
    simpa [rrow] using hj) (by intro u hu; simp [rrow] at hu; rcases hu with rfl | rfl | rfl | rfl <;> rfl) (by unfold maxLen; omega) (by omega) (by simp; have := L.base_le; omega)
  obtain ⟨a', cap', rfl⟩ := own_form own7
  have hbA : (X.alloc (.cells #[I p.am, I p.an, I p.nd, .bool p.lv] 223)).heap[b]? = some (.cells #[.slice a rs.length cap] 226) := (Below.heap_alloc _ _ _ L.lt).trans h1
  have hb5 : W5.heap[b]? = some (.cells #[.slice a rs.length cap] 226) := (hgr.block b (lt_of_heap hbA) (own_ne own5 hbA (by simp))).trans hbA
  have hself : ∀ j, j ≠ b → (W5.setCell ⟨b, 0, none⟩ (.slice a' (rs.length + 1) cap')).heap[j]? = W5.heap[j]? := fun j hj => Below.heap_setCell _ _ _ _ hj
  refine ⟨a', cap', W5, hrun, by rw [cell_of hb5]; rfl, frozen_of hb5 0, ⟨⟨a', cap', ?_, ?_⟩, L.kb, by simp⟩, ?_⟩
  · rw [heap_set hb5]; simp
  · rw [List.length_append, rowsOf_append]
    refine own_keep own7 fun j cur hc => hself j ?_
    rintro rfl
    rw [hb5] at hc
    simp at hc
  · have b1 : Below base X (X.alloc (.cells #[I p.am, I p.an, I p.nd, .bool p.lv] 223)) := ((Below.refl _ X).alloc (Nat.le_refl _) _).mono L.base_le
    have b2 := below_grown b1 own5 hgr (by simp; have := L.base_le; omega)
    refine ⟨b2.os, b2.tape, b2.output, by have := b2.size; simp [World.setCell]; omega, fun j hj => (hself j (by have := L.kb; omega)).trans (b2.block j hj), fun j o g1 g2 g3 => ?_⟩
    have hkA : (X.alloc (.cells #[I p.am, I p.an, I p.nd, .bool p.lv] 223)).heap[j]? = some o := (Below.heap_alloc _ _ _ (lt_of_heap g1)).trans g1
    rw [hself j g2, hgr.block j (lt_of_heap hkA) (own_ne own5 hkA g3), hkA]
section
variable {B : Int} {t : T} {rs : List Rm} {base b : Nat} {w : World}
theorem rbind_no (h : RT t rs) (hw : Wf B t) (hR : Rs base w b rs) (hl : rs.length ≤ 100) (am an nd k : Int) (hk : bindE t.es am an = k) (h0 : k ≠ 0) :
    Calls Tryz.prog 149 #[.pointer (some ⟨b, 0, none⟩), pv am an, I nd] w fun e w' => e = .returned (.tuple #[I 0, I k]) ∧ Below w.heap.size w w' := by
  obtain ⟨V, hV, hs, hx, hb⟩ : ∃ V, w.alloc (.cells #[I am, I an] 50) = V ∧ V.heap.size = w.heap.size + 1 ∧ V.heap[w.heap.size]? = some (.cells #[I am, I an] 50) ∧ Below w.heap.size w V := ⟨_, rfl, by simp, putAll _ _ rfl, below_alloc _ _⟩
  obtain ⟨v0, v1⟩ := cells2 hx
  have H1 := hide (ris_any base b rs am V (hR.below hb))
  have H2 := hide (over_any base b rs am an V (hR.below hb) (by omega))
  have H3 := hide (fun W (hB : Below V.heap.size V W) => rlist_any base b rs W ((hR.below hb).below hB) (by omega))
  have HO := hide (fun r (ho : Ov rs (lvAt am an) r) => h.over hw ho)
  rw [h.is hw] at H1
  rw [h.list hw] at H3
  have hlst : (lst t.es).length = 1 + t.es.length := by simp [lst]; omega
  have hnum := fun (ha : any t.es (isAt am an) = true) => hw.num _ (fst_mem ha).1
  unfold bindE at hk
  have HB := hide hb
  clear hR hb hx h hw
  unfold pv
  go_enter Tryz.func149, Tryz.ntmps149
  go_wp2_with fail
  refine (unhide H1).mono ?_
  rintro e w1 ⟨rfl, hw1⟩
  rw [hw1]
  clear hw1 H1
  cases hy1 : rootIs t.es am with
  | false =>
    rw [hy1] at hk
    obtain rfl : 1 = k := by simpa using hk
    clear H2 H3 HO hk h0 hy1 hnum
    go_wp2_with fail
    go_ret2
    exact ⟨rfl, unhide HB⟩
  | true =>
    rw [hy1] at hk
    go_wp2_with fail
    refine (unhide H2).mono ?_
    rintro e w2 ⟨⟨r, ho, rfl⟩, hB2⟩
    have hr := unhide HO r ho
    have HB2 := hide ((unhide HB).trans (hB2.mono (by omega)))
    cases hy2 : any t.es (isAt am an) with
    | true =>
      rw [hy2] at hr hk
      obtain rfl : 15 = k := by simpa using hk
      have hp : (0 : Int) ≤ r := by simp only [if_true] at hr; rw [hr]; have := hnum hy2; omega
      clear H3 HO hk h0 hy1 hy2 hr ho hB2 hnum
      go_wp2_with fail
      go_ret2
      exact ⟨rfl, unhide HB2⟩
    | false =>
      rw [hy2] at hr hk
      obtain rfl : r = -1 := by simpa using hr
      have hl8 : 8 ≤ 1 + (t.es.length : Int) := by
        refine Decidable.byContradiction fun h' => h0 ?_
        simp [h'] at hk
        exact hk.symm
      obtain rfl : 13 = k := by simpa [hl8] using hk
      have H3' := hide (unhide H3 w2 hB2)
      clear H3 HO hk h0 hy1 hy2 hr ho hnum v0 v1 hV
      go_wp2_with fail
      refine (unhide H3').mono ?_
      rintro e w3 ⟨v, rfl, own, hB3⟩
      obtain ⟨a, cp, rfl⟩ := own_form own
      have HB3 := hide ((unhide HB2).trans (hB3.mono (unhide HB2).size))
      have q8 : (8 : Int) ≤ ((lst t.es).length : Int) := by omega
      clear own hB3 hB2 H3'
      generalize (lst t.es).length = n at *
      go_wp2_with fail
      go_ret2
      exact ⟨rfl, unhide HB3⟩
end
end Go.Proofs.YtlngeaacjbdmhaaGreat.Mt

namespace Go.Proofs.YtlngeaacjbdmhaaGreat.Mt
open Go.RowKit
attribute [local go_sem ↓] Go.wp_at_zero Go.wp_at_succ
section
variable {B : Int} {t : T} {rs : List Rm} {base b : Nat} {w W : World}
set_option maxRecDepth 100000 in
set_option maxHeartbeats 1000000 in
theorem rbind_yes (h : RT t rs) (hw : Wf B t) (hR : Rs base w b rs) (hl : rs.length ≤ 100) (am an nd : Int) (hz : bindE t.es am an = 0) :
    Calls Tryz.prog 149 #[.pointer (some ⟨b, 0, none⟩), pv am an, I nd] w fun e w' => e = .returned (.tuple #[I (t.md + 1), I 0]) ∧ Rs base w' b (rs ++ [⟨am, an, nd, true⟩]) ∧ Fq base b w w' := by
  obtain ⟨V, hV, hs, hx, hb⟩ : ∃ V, w.alloc (.cells #[I am, I an] 50) = V ∧ V.heap.size = w.heap.size + 1 ∧ V.heap[w.heap.size]? = some (.cells #[I am, I an] 50) ∧ Below w.heap.size w V := ⟨_, rfl, by simp, putAll _ _ rfl, below_alloc _ _⟩
  obtain ⟨v0, v1⟩ := cells2 hx
  obtain ⟨z1, z2, z3⟩ := bindE_zero hz
  have hbase := hR.base_le
  have H1 := hide (ris_any base b rs am V (hR.below hb))
  have H2 := hide (over_any base b rs am an V (hR.below hb) (by omega))
  have H3 := hide (fun W (hB : Below V.heap.size V W) => rlist_any base b rs W ((hR.below hb).below hB) (by omega))
  have HR := hide (fun W (hB : Below V.heap.size V W) => (hR.below hb).below hB)
  have HO := hide (fun r (ho : Ov rs (lvAt am an) r) => h.over hw ho)
  rw [h.is hw, z1] at H1
  rw [h.list hw] at H3
  rw [z2] at HO
  have hlst : (lst t.es).length = 1 + t.es.length := by simp [lst]; omega
  have HLen := hide h.len
  have HB := hide hb
  have HX := hide hx
  obtain ⟨md1, hmd1⟩ : ∃ md1, md1 = t.md + 1 := ⟨_, rfl⟩
  rw [← hmd1] at HLen ⊢
  clear hR hb hx h hw z1 z2 hz hmd1
  unfold pv
  go_enter Tryz.func149, Tryz.ntmps149
  go_wp2_with fail
  refine (unhide H1).mono ?_
  rintro e w1 ⟨rfl, hw1⟩
  rw [hw1]
  clear hw1 H1
  go_wp2_with fail
  refine (unhide H2).mono ?_
  rintro e w2 ⟨⟨r, ho, rfl⟩, hB2⟩
  obtain rfl : r = -1 := by simpa using unhide HO r ho
  have H3' := hide (unhide H3 w2 hB2)
  have HB2 := hide hB2
  clear H3 HO ho v0 v1 hV hB2 H2
  go_wp2_with fail
  refine (unhide H3').mono ?_
  rintro e w3 ⟨v, rfl, own, hB3⟩
  obtain ⟨a0, cp0, rfl⟩ := own_form own
  have hBV := (unhide HB2).trans (hB3.mono (unhide HB2).size)
  have LX := unhide HR w3 hBV
  have qX := (hBV.block w.heap.size (by omega)).trans (unhide HX)
  have FX : Fq base b w w3 := Fq.of_below ((unhide HB).trans (hBV.mono (by omega))) hbase
  have q8 : ¬ (8 : Int) ≤ ((lst t.es).length : Int) := by omega
  obtain ⟨g, cap, c0, cf, _, _, _⟩ := LX.cells
  obtain ⟨a5, cap5, W5, hrun, d0, df, L5, F5⟩ := rpush ⟨am, an, nd, true⟩ (LX.below (W' := w3.drew) ⟨rfl, rfl, rfl, Nat.le_refl _, fun _ _ => rfl⟩) (by omega) (show w3.drew.cell? _ = _ from c0)
  obtain ⟨r0, r1⟩ := cells2 qX
  have r0d : w3.drew.cell? ⟨w.heap.size, 0, none⟩ = some (I am) := r0
  have r1d : w3.drew.cell? ⟨w.heap.size, 1, none⟩ = some (I an) := r1
  have c0d : w3.drew.cell? ⟨b, 0, none⟩ = _ := c0
  have c0a := cell_alloc c0 (.cells #[I am, I an, I nd, .bool true] 223)
  obtain ⟨g6, cap6, z0, _⟩ := L5.cells
  rw [List.length_append, List.length_cons, List.length_nil, Nat.zero_add] at z0
  have HL5 := hide L5
  have HF5 := hide ((FX.trans (Fq.of_below (w' := w3.drew) ⟨rfl, rfl, rfl, Nat.le_refl _, fun _ _ => rfl⟩ (by have := FX.size; omega))).trans F5)
  have el := unhide HLen
  have Hel : Hid ((rs.length : Int) = md1) := el
  have hmm : (rs.length : Int) ≤ 100 := by omega
  clear LX qX FX own hB3 hBV L5 F5 cf r0 r1 H3' HB2 HB HX HR HLen el c0
  generalize rs.length = m at *
  generalize (lst t.es).length = n at *
  go_wp2_with fail
  go_region_law (refine step_append_eq (by rfl) _ _ 224 (by rfl) 224 (by rfl) _ _ (by rfl) (by rfl) _ _ hrun ?_)
  all_goals
    clear hrun c0a c0d r0d r1d
    go_wp2_with fail
    go_ret2
    refine ⟨?_, unhide HL5, unhide HF5⟩
    rw [← unhide Hel]
    first
      | rfl
      | (simp; done)
      | (simp; omega)
/-- One of the mounts is gone. -/
theorem Rs.setLv (L : Rs base W b rs) {j : Nat} {p : Rm} (hp : rs[j]? = some p) : ∃ g cap, W.cell? ⟨b, 0, none⟩ = some (.slice (some ⟨g, 0, none⟩) rs.length cap) ∧ W.cell? ⟨g, j * 4 + 3, none⟩ = some (.bool p.lv) ∧ W.frozen? ⟨g, j * 4 + 3, none⟩ = false ∧
    Rs base (W.setCell ⟨g, j * 4 + 3, none⟩ (.bool false)) b (rs.set j { p with lv := false }) ∧ Fq base b W (W.setCell ⟨g, j * 4 + 3, none⟩ (.bool false)) := by
  obtain ⟨a, cap, h1, own⟩ := L.hb
  have own0 := own
  obtain ⟨hl0, ⟨e0, hz⟩ | ⟨g, cap', cur, e0, hgb, hgg, hcap, hcm, hcs, htk⟩⟩ := own
  · have := L.len; omega
  simp only [Value.slice.injEq] at e0
  obtain ⟨rfl, -, rfl⟩ := e0
  obtain ⟨_, _, _, r3⟩ := rrows_at rs j p hp
  have hj := (List.getElem?_eq_some_iff.1 hp).1
  have hbg : b ≠ g := by
    rintro rfl
    rw [h1] at hgg
    simp at hgg
  have hlen4 : (rowsOf rrow rs).length = rs.length * 4 := by rw [rowsOf_length rrow 4 rrow_length, Nat.mul_comm]
  have c3 : cur[j * 4 + 3]? = some (.bool p.lv) := by
    have hj2 := (List.getElem?_eq_some_iff.1 r3).1
    rw [← htk] at r3
    rw [List.getElem?_take_of_lt (by omega)] at r3
    simpa using r3
  have hset := heap_set hgg (j * 4 + 3) (.bool false)
  refine ⟨g, cap, by rw [cell_of h1]; rfl, by rw [cell_of hgg]; exact c3, frozen_of hgg _, ⟨⟨some ⟨g, 0, none⟩, cap, ?_, ?_, .inr ⟨g, cap, _, ?_, hgb, hset, ?_, hcm, by simpa using hcs, ?_⟩⟩, L.kb, by simpa using L.ne⟩, ?_⟩
  · rw [Below.heap_setCell _ _ _ _ hbg, List.length_set]; exact h1
  · rw [rowsOf_length rrow 4 rrow_length, List.length_set, Nat.mul_comm]
  · simp
  · simpa using hcap
  · rw [List.length_set, Array.toList_setIfInBounds, List.take_set, htk, show j * 4 + 3 = 4 * j + 3 by omega]
    exact rowsOf_set rrow 4 rrow_length rs j 3 p { p with lv := false } (.bool false) hp (by omega) rfl
  · refine ⟨rfl, rfl, rfl, by simp [World.setCell], fun k hk => Below.heap_setCell _ _ _ _ (by have := hgb; simp; omega), fun k o g1 g2 g3 => (Below.heap_setCell _ _ _ _ ?_).trans g1⟩
    rintro rfl
    rw [hgg] at g1
    exact g3 _ (Option.some.inj g1).symm
end
end Go.Proofs.YtlngeaacjbdmhaaGreat.Mt

namespace Go.Proofs.YtlngeaacjbdmhaaGreat.Mt
open Go.RowKit
attribute [local go_sem ↓] Go.wp_at_zero Go.wp_at_succ
section
variable {B : Int} {t : T} {rs : List Rm} {base b : Nat} {w : World}
theorem runbind_no (h : RT t rs) (hw : Wf B t) (hR : Rs base w b rs) (hl : rs.length ≤ 100) (m k : Int) (hk : unbE t.es m = k) (h0 : k ≠ 0) :
    Calls Tryz.prog 100 #[.pointer (some ⟨b, 0, none⟩), I m] w fun e w' => e = .returned (I k) ∧ Below w.heap.size w w' := by
  have H1 := hide (ris_any base b rs m w hR)
  have H2 := hide (rabove_any base b rs m w hR (by omega))
  rw [h.is hw] at H1
  rw [h.above hw] at H2
  by_cases m0 : m = 0
  · subst m0
    have ha : any t.es (isN 0) = false := any_false.2 fun q hq => by
      have := hw.num q hq
      simp [isN]; omega
    obtain rfl : 1 = k := by simpa [unbE, ha] using hk
    clear H1 H2 hR h hw hk ha
    go_enter Tryz.func100, Tryz.ntmps100
    go_wp2_with fail
    go_ret
    exact ⟨rfl, Below.refl _ _⟩
  · have e1 : rootIs t.es m = any t.es (isN m) := by rw [rootIs, if_neg m0]
    rw [e1] at H1
    have q0 : (m == 0) = false := by simp [m0]
    cases ha : any t.es (isN m) with
    | false =>
      rw [ha] at H1
      obtain rfl : 1 = k := by simpa [unbE, ha] using hk
      clear H2 hR h hw hk ha e1 h0
      go_enter Tryz.func100, Tryz.ntmps100
      go_wp2_with fail
      refine (unhide H1).mono ?_
      rintro e w1 ⟨rfl, hw1⟩
      rw [hw1]
      clear hw1 H1
      go_wp2_with fail
      go_ret
      exact ⟨rfl, Below.refl _ _⟩
    | true =>
      rw [ha] at H1
      have hb' : any t.es (isM m) = true := by
        cases hm : any t.es (isM m) with
        | true => rfl
        | false => exact absurd (by simpa [unbE, ha, hm] using hk.symm) h0
      obtain rfl : 15 = k := by simpa [unbE, ha, hb'] using hk
      have hpos : 0 < (abv t.es m).length := by
        have := mt abv_nil.1 (by rw [hb']; simp)
        omega
      clear hR h hw hk ha e1 h0 hb'
      go_enter Tryz.func100, Tryz.ntmps100
      go_wp2_with fail
      refine (unhide H1).mono ?_
      rintro e w1 ⟨rfl, hw1⟩
      rw [hw1]
      clear hw1 H1
      go_wp2_with fail
      refine (unhide H2).mono ?_
      rintro e w3 ⟨v, rfl, own, hB3⟩
      obtain ⟨a, cp, rfl⟩ := own_form own
      have HB3 := hide hB3
      have q8 : (0 : Int) < ((abv t.es m).length : Int) := by omega
      clear own hB3 H2 hpos
      generalize (abv t.es m).length = n at *
      go_wp2_with fail
      go_ret
      exact ⟨rfl, unhide HB3⟩
theorem runbind_yes (h : RT t rs) (hw : Wf B t) (hR : Rs base w b rs) (hl : rs.length ≤ 100) (m : Int) (hz : unbE t.es m = 0) :
    Calls Tryz.prog 100 #[.pointer (some ⟨b, 0, none⟩), I m] w fun e w' => e = .returned (I 0) ∧ (∃ rs', Rs base w' b rs' ∧ RT (t.unbind m) rs' ∧ rs'.length = rs.length) ∧ Fq base b w w' := by
  obtain ⟨z1, z2, z3⟩ := (unb_ok hw m).1 hz
  obtain ⟨j, p, rfl, hp, hRT⟩ := h.unb hw hz
  have H1 := hide (ris_any base b rs (j : Int) w hR)
  have H2 := hide (rabove_any base b rs (j : Int) w hR (by omega))
  rw [h.is hw, z2] at H1
  rw [h.above hw, z3] at H2
  have hj := (List.getElem?_eq_some_iff.1 hp).1
  have HS := hide (fun W (hB : Below w.heap.size w W) => (hR.below hB).setLv hp)
  have HRT := hide hRT
  have hbase := hR.base_le
  have q0 : ((j : Int) == 0) = false := by simpa using z1
  have j1 : (j : Int) < (rs.length : Int) := by omega
  have j0 : (0 : Int) ≤ (j : Int) := by omega
  clear hR h hw hz z2 z3 hRT
  obtain ⟨N, hN⟩ : ∃ N, N = rs.length := ⟨_, rfl⟩
  rw [← hN] at j1 HS
  have HN := hide hN
  clear hN
  go_enter Tryz.func100, Tryz.ntmps100
  go_wp2_with fail
  refine (unhide H1).mono ?_
  rintro e w1 ⟨rfl, hw1⟩
  rw [hw1]
  clear hw1 H1
  go_wp2_with fail
  refine (unhide H2).mono ?_
  rintro e w3 ⟨v, rfl, own, hB3⟩
  obtain ⟨a, cp, rfl⟩ := own_form own
  obtain ⟨g, cap, c0, c1, c2, L5, F5⟩ := unhide HS w3 hB3
  have HL5 := hide L5
  have HF5 := hide ((Fq.of_below hB3 hbase).trans F5)
  clear own hB3 H2 HS L5 F5
  go_wp2_with fail
  go_ret
  exact ⟨rfl, ⟨_, unhide HL5, unhide HRT, by simp⟩, unhide HF5⟩
end
end Go.Proofs.YtlngeaacjbdmhaaGreat.Mt

namespace Go.Proofs.YtlngeaacjbdmhaaGreat.Kr
open Go.RowKit
theorem toNat_of (x : Int) : ((BitVec.ofInt 64 x).toNat : Int) = x % 18446744073709551616 := by
  rw [BitVec.toNat_ofInt]
  omega
theorem wrap_small {n : Nat} (h : n < 9223372036854775808) : IntKind.i64.wrap (n : Int) = n := by
  simp only [IntKind.wrap, IntKind.bits, IntKind.signed]
  simp
  omega
theorem wrap_zero {n : Nat} (h : n < 18446744073709551616) : IntKind.i64.wrap (n : Int) = 0 ↔ n = 0 := by
  simp only [IntKind.wrap, IntKind.bits, IntKind.signed]
  simp
  split <;> omega
theorem and_mask (n k m : Nat) (h : m &&& (2 ^ k - 1) = m) : n &&& m = (n % 2 ^ k) &&& m := by
  rw [← Nat.and_two_pow_sub_one_eq_mod, Nat.and_assoc, Nat.and_comm (2 ^ k - 1) m, h]
/-- The lowest three bits. -/
def lo (x : Int) : Nat := (x % 8).toNat
theorem lo_lt (x : Int) : lo x < 8 := by unfold lo; omega
theorem lo_mod (x : Int) : (BitVec.ofInt 64 x).toNat % 8 = lo x := by
  have := toNat_of x
  unfold lo
  omega
/-- And with a mask of ten bits at most. -/
theorem and_of (x : Int) (m : Nat) (hm : m < 1024) : bits .and .i64 x m = (((x % 1024).toNat &&& m : Nat) : Int) := by
  have h0 : m &&& (2 ^ 10 - 1) = m := by rw [Nat.and_two_pow_sub_one_eq_mod]; omega
  have h1 := toNat_of x
  have h2 : (BitVec.ofInt 64 x).toNat % 2 ^ 10 = (x % 1024).toNat := by omega
  have h3 : (BitVec.ofInt 64 (m : Int)).toNat = m := by have := toNat_of m; omega
  show IntKind.i64.wrap ((BitVec.ofInt 64 x &&& BitVec.ofInt 64 (m : Int)).toNat : Int) = _
  rw [BitVec.toNat_and, h3, and_mask _ 10 m h0, h2]
  apply wrap_small
  have : (x % 1024).toNat &&& m ≤ m := Nat.and_le_right
  omega
theorem and7 (x : Int) : bits .and .i64 x 7 = lo x := by
  rw [show (7 : Int) = ((7 : Nat) : Int) from rfl, and_of x 7 (by omega), and_mask _ 3 7 (by decide), show (7 : Nat) = 2 ^ 3 - 1 from rfl, Nat.and_two_pow_sub_one_eq_mod]
  unfold lo
  omega
/-- Has who has these all that is wanted? -/
def has (w m : Nat) : Bool := w &&& m == w
theorem bv_not (a b : BitVec 64) : a &&& ~~~b = 0#64 ↔ a &&& b = a := by
  constructor
  · intro h
    ext i hi
    have := congrArg (fun v => v.getLsbD i) h
    simp [BitVec.getLsbD_eq_getElem hi] at this
    simp
    exact this
  · intro h
    ext i hi
    have := congrArg (fun v => v.getLsbD i) h
    simp [BitVec.getLsbD_eq_getElem hi] at this
    simp
    exact this
theorem andNot_zero (w : Nat) (hw : w < 8) (b : Int) : (bits .andNot .i64 (w : Int) b == 0) = has w (lo b) := by
  have h1 := toNat_of (w : Int)
  have h3 : (BitVec.ofInt 64 (w : Int)).toNat = w := by omega
  have key : bits .andNot .i64 (w : Int) b = 0 ↔ w &&& lo b = w := by
    show IntKind.i64.wrap ((BitVec.ofInt 64 (w : Int) &&& ~~~BitVec.ofInt 64 b).toNat : Int) = 0 ↔ _
    rw [wrap_zero (BitVec.isLt _)]
    have e1 : ((BitVec.ofInt 64 (w : Int) &&& ~~~BitVec.ofInt 64 b).toNat = 0) ↔ (BitVec.ofInt 64 (w : Int) &&& ~~~BitVec.ofInt 64 b) = 0#64 := by
      constructor
      · intro h; exact BitVec.eq_of_toNat_eq (by simpa using h)
      · intro h; rw [h]; rfl
    rw [e1, bv_not]
    have e2 : (BitVec.ofInt 64 (w : Int) &&& BitVec.ofInt 64 b).toNat = w &&& lo b := by
      rw [BitVec.toNat_and, h3, Nat.and_comm, and_mask _ 3 w (by rw [Nat.and_two_pow_sub_one_eq_mod]; omega), lo_mod, Nat.and_comm]
    constructor
    · intro h
      rw [← e2, h, h3]
    · intro h
      apply BitVec.eq_of_toNat_eq
      rw [e2, h, h3]
  rw [Bool.eq_iff_iff, beq_iff_eq, key]
  simp [has]
/-- Those bits that count for one of this owner and group, as a number whose lowest three they are. -/
def cnt (cu cg m su sg : Int) : Int := if cu = 0 then 7 else if cu = su then m / 64 else if cg = sg then m / 8 else m
/-- May: has c all of want? -/
def may (cu cg m su sg w : Int) : Bool := has (lo w) (lo (cnt cu cg m su sg))
def owns (cu su : Int) : Bool := cu == 0 || cu == su
def stk (cu dm du su : Int) : Bool := (bits .and .i64 dm 512 != 0) && !owns cu du && !owns cu su
end Go.Proofs.YtlngeaacjbdmhaaGreat.Kr

namespace Go.Proofs.YtlngeaacjbdmhaaGreat.Wl
open Go.RowKit
/-- Who walks, and in what. -/
structure En where
  T : Tr
  rt : Int
  md : Int
  es : Mt.Ents
  cu : Int
  cg : Int
  rm : Int
  rn : Int
  follow : Bool
def En.down (E : En) (m n : Int) : Int × Int := Mt.down E.md E.es m n
def En.may (E : En) (n : Int) : Bool := match E.T.nd n with | some x => Kr.may E.cu E.cg x.mode x.uid x.gid 1 | none => false
def En.refusal (E : En) (n : Int) : Int := if E.T.kindOf n = 1 then (if E.may n = true then 0 else 34) else 37
/-- Up, at most so many steps. -/
def upF (es : Mt.Ents) : Nat → Int → Int → Int × Int
  | 0, m, n => (m, n)
  | k + 1, m, n => if Mt.upIs es m n = true then upF es k (Mt.upM es m n) (Mt.upN es m n) else (m, n)
/-- How many steps are enough. -/
def upK (es : Mt.Ents) (m : Int) : Nat := es.countP fun p => decide (p.n ≤ m)
def up (es : Mt.Ents) (m n : Int) : Int × Int := upF es (upK es m) m n
theorem up_less {md : Int} {es : Mt.Ents} (h : Mt.Eld md es) {m n : Int} (hu : Mt.upIs es m n = true) : Mt.upM es m n < m ∧ upK es (Mt.upM es m n) < upK es m := by
  have h1 : Mt.any es (Mt.isN m) = true := by
    unfold Mt.upIs at hu
    simp at hu
    exact hu.1
  obtain ⟨h2, h3⟩ := Mt.fst_mem h1
  simp only [Mt.isN, decide_eq_true_eq] at h3
  have h4 := h _ h2
  have e : Mt.upM es m n = (Mt.fst es (Mt.isN m)).am := by rw [Mt.upM, if_pos hu]
  rw [e]
  refine ⟨by omega, ?_⟩
  unfold upK
  have h5 : es.countP (fun p => decide (p.n ≤ (Mt.fst es (Mt.isN m)).am)) ≤ es.countP (fun p => decide (p.n < m)) := List.countP_mono_left fun p _ hp => by
    simp at hp ⊢
    omega
  have h6 : es.countP (fun p => decide (p.n < m)) < es.countP (fun p => decide (p.n ≤ m)) := by
    clear h5 e h4 hu h1 h
    generalize Mt.fst es (Mt.isN m) = q at h2 h3
    induction es with
    | nil => simp at h2
    | cons x l ih =>
      rw [List.countP_cons, List.countP_cons]
      have hm : l.countP (fun p => decide (p.n < m)) ≤ l.countP (fun p => decide (p.n ≤ m)) := List.countP_mono_left fun p _ hp => by
        simp at hp ⊢
        omega
      rcases List.mem_cons.1 h2 with rfl | h2
      · rw [if_neg (by simp; omega), if_pos (by simp; omega)]
        omega
      · have := ih h2
        split <;> split <;> simp_all <;> omega
  omega
theorem up_stop {es : Mt.Ents} {m n : Int} (hu : Mt.upIs es m n = false) (k : Nat) : upF es k m n = (m, n) := by
  cases k with
  | zero => rfl
  | succ k => rw [upF, hu]; rfl
theorem up_same {md : Int} {es : Mt.Ents} (h : Mt.Eld md es) : ∀ (k k' : Nat) (m n : Int), upK es m ≤ k → upK es m ≤ k' → upF es k m n = upF es k' m n := by
  intro k
  induction k with
  | zero =>
    intro k' m n hk _
    cases hu : Mt.upIs es m n with
    | false => rw [up_stop hu, up_stop hu]
    | true => have := (up_less h hu).2; omega
  | succ k ih =>
    intro k' m n hk hk'
    cases hu : Mt.upIs es m n with
    | false => rw [up_stop hu, up_stop hu]
    | true =>
      have := (up_less h hu).2
      cases k' with
      | zero => omega
      | succ j =>
        rw [upF, upF, hu]
        simp only [if_true]
        exact ih _ _ _ (by omega) (by omega)
theorem up_step {md : Int} {es : Mt.Ents} (h : Mt.Eld md es) {m n : Int} (hu : Mt.upIs es m n = true) : up es m n = up es (Mt.upM es m n) (Mt.upN es m n) := by
  have h1 := (up_less h hu).2
  obtain ⟨j, hj⟩ : ∃ j, upK es m = j + 1 := ⟨upK es m - 1, by omega⟩
  rw [up, hj, upF, hu]
  simp only [if_true]
  exact up_same h _ _ _ _ (by omega) (Nat.le_refl _)
theorem up_end {es : Mt.Ents} {m n : Int} (hu : Mt.upIs es m n = false) : up es m n = (m, n) := up_stop hu _
abbrev bs (l : List UInt8) : ByteArray := ⟨l.toArray⟩
abbrev Bytes := List UInt8
def isDots (p : Bytes) : Bool := p == [46] || p == [46, 46]
def En.dots (E : En) (p : Bytes) (am an : Int) : Int × Int :=
  if p = [46] ∨ (am = E.rm ∧ an = E.rn) then (am, an) else E.down (up E.es am an).1 (E.T.up (up E.es am an).2)
def En.find (E : En) (p : Bytes) (am an : Int) : Option (Int × Int) := (E.T.findN an (bs p)).map fun n => E.down am n
/-- The path that a symlink makes: why not, or whether it begins and ends with a slash, and its parts. -/
structure Pa where
  root : Bool
  slash : Bool
  parts : List Bytes
def onE (fol : Nat) (text : Bytes) (slash : Bool) (rest : List Bytes) : Int :=
  if fol = 40 then 46 else if text = [] then 32 else if 4096 < text.length + (Nm.pw false slash rest).length then 45 else Nm.err text
def onP (text : Bytes) (slash : Bool) (rest : List Bytes) : Pa := ⟨Nm.rt text, slash || (Nm.sl text && rest.isEmpty), Nm.ps text ++ rest⟩
/-- What a walk came to. -/
structure Fd where
  dm : Int
  dn : Int
  last : Bytes
  am : Int
  an : Int
  has : Bool
  slash : Bool
def Fd.v (f : Fd) : Value := .agg #[I f.dm, I f.dn, .string (bs f.last), I f.am, I f.an, .bool f.has, .bool f.slash]
def Fd.none : Fd := ⟨0, 0, [], 0, 0, false, false⟩
/-- Where a path leads: another path, or an end; where it is by then, and how many parts were looked at. -/
structure Re where
  next : Option Pa
  f : Fd
  why : Int
  am : Int
  an : Int
  steps : Nat
def En.endF (E : En) (dm dn : Int) (last : Bytes) (am an : Int) (slash : Bool) : Fd :=
  if slash = true ∧ E.T.kindOf an ≠ 1 then Fd.none else if last = [] then ⟨am, an, last, am, an, true, slash⟩ else ⟨dm, dn, last, am, an, true, slash⟩
def En.endE (E : En) (an : Int) (slash : Bool) : Int := if slash = true ∧ E.T.kindOf an ≠ 1 then 37 else 0
def missF (p : Bytes) (rest : List Bytes) (slash : Bool) (am an : Int) : Fd := if rest = [] then ⟨am, an, p, 0, 0, false, slash⟩ else Fd.none
def missE (rest : List Bytes) : Int := if rest = [] then 0 else 32
/-- Is a symlink at to followed? -/
def En.goes (E : En) (n : Int) (rest : List Bytes) (slash : Bool) : Bool := decide (E.T.kindOf n = 3) && (!rest.isEmpty || E.follow || slash)
def En.text (E : En) (n : Int) : Bytes := (E.T.textOf n).data.toList
def En.par (E : En) (fol : Nat) (slash : Bool) : List Bytes → Int → Int → Bytes → Int → Int → Nat → Re
  | [], dm, dn, last, am, an, s => ⟨none, E.endF dm dn last am an slash, E.endE an slash, am, an, s⟩
  | p :: rest, dm, dn, _, am, an, s =>
    if E.refusal an = 0 then
      if isDots p = true then E.par fol slash rest dm dn [] (E.dots p am an).1 (E.dots p am an).2 (s + 1)
      else match E.find p am an with
        | none => ⟨none, missF p rest slash am an, missE rest, am, an, s + 1⟩
        | some t => if E.goes t.2 rest slash = true then
            (if onE fol (E.text t.2) slash rest = 0 then ⟨some (onP (E.text t.2) slash rest), Fd.none, 0, am, an, s + 1⟩ else ⟨none, Fd.none, onE fol (E.text t.2) slash rest, am, an, s + 1⟩)
          else E.par fol slash rest am an p t.1 t.2 (s + 1)
    else ⟨none, Fd.none, E.refusal an, am, an, s + 1⟩
/-- Where a path is begun. -/
def En.beg (E : En) (p : Pa) (am an : Int) : Int × Int := if p.root = true then (E.rm, E.rn) else (am, an)
def En.one (E : En) (fol : Nat) (p : Pa) (am an : Int) (s : Nat) : Re := E.par fol p.slash p.parts (E.beg p am an).1 (E.beg p am an).2 [] (E.beg p am an).1 (E.beg p am an).2 s
/-- k: how many more may be followed. -/
def En.run (E : En) : Nat → Pa → Int → Int → Nat → Re
  | 0, p, am, an, s => E.one 40 p am an s
  | k + 1, p, am, an, s => match (E.one (40 - (k + 1)) p am an s).next with
    | none => E.one (40 - (k + 1)) p am an s
    | some q => E.run k q (E.one (40 - (k + 1)) p am an s).am (E.one (40 - (k + 1)) p am an s).an (E.one (40 - (k + 1)) p am an s).steps
/-- At the last path no symlink is followed. -/
theorem En.par_last (E : En) (slash : Bool) : ∀ (ps : List Bytes) (dm dn : Int) (last : Bytes) (am an : Int) (s : Nat), (E.par 40 slash ps dm dn last am an s).next = none := by
  intro ps
  induction ps with
  | nil => intros; rfl
  | cons p rest ih =>
    intro dm dn last am an s
    unfold En.par
    split
    · split
      · exact ih _ _ _ _ _ _
      · split
        · rfl
        · split
          · rw [if_neg (by simp [onE])]
          · exact ih _ _ _ _ _ _
    · rfl
/-- A place: a live node under a mount that is there. -/
def En.place (E : En) (m n : Int) : Bool := (E.T.nd n).isSome && Mt.rootIs E.es m
end Go.Proofs.YtlngeaacjbdmhaaGreat.Wl

namespace Go.Proofs.YtlngeaacjbdmhaaGreat.Nm
open Go.RowKit
attribute [local go_sem ↓] Go.wp_at_zero Go.wp_at_succ
theorem size54 : (Tryz.prog.info? 335).map (fun i => i.size) = some 2 := by kernel_rfl
set_option maxRecDepth 100000 in
set_option maxHeartbeats 1000000 in
theorem check_used (b : Nat) (w : World) (h0 : w.cell? ⟨b, 0, none⟩ = some (.pointer (some ⟨b, 0, none⟩))) :
    Calls Tryz.prog 327 #[.pointer (some ⟨b, 0, none⟩)] w fun e w' => e = .returned (.tuple #[]) ∧ w' = w := by
  obtain ⟨j, hj, _⟩ := Option.map_eq_some_iff.1 size54
  go_enter Tryz.func327, Tryz.ntmps327
  go_wp2
  rw [Lib.run_neq_ptr_same w _ Tryz.underlying333 hj]
  go_wp2
  go_end0
  exact ⟨rfl, rfl⟩
set_option maxRecDepth 100000 in
set_option maxHeartbeats 1000000 in
theorem check_fresh (b : Nat) (w : World) (h0 : w.cell? ⟨b, 0, none⟩ = some (.pointer none)) (hsh : w.shape? b = some (335, 2)) (hfz : w.frozen? ⟨b, 0, none⟩ = false) :
    Calls Tryz.prog 327 #[.pointer (some ⟨b, 0, none⟩)] w fun e w' => e = .returned (.tuple #[]) ∧ w' = w.setCell ⟨b, 0, none⟩ (.pointer (some ⟨b, 0, none⟩)) := by
  obtain ⟨j, hj, hjs⟩ := Option.map_eq_some_iff.1 size54
  go_enter Tryz.func327, Tryz.ntmps327
  go_wp2
  rw [Lib.run_to_unsafe w ⟨b, 0, none⟩ Tryz.underlying333 Tryz.underlying353 hj (by rw [hjs]; decide) hsh (Nat.zero_lt_succ 1)]
  simp only [Result.andThen]
  rw [Oper.upon_value]
  go_wp2
  rw [run_callFunc_extern Tryz.func331 (by kernel_rfl) (by kernel_rfl) (by kernel_rfl) (e := Extern.AbiNoEscape.same) (by kernel_rfl)]
  rw [Lib.run_noEscape]
  simp only [Result.andThen]
  rw [Oper.upon_value]
  go_wp2
  rw [Lib.run_from_unsafe w ⟨b, 0, none⟩ Tryz.underlying353 Tryz.underlying333 hj hsh (by kernel_rfl)]
  simp only [Result.andThen]
  rw [Oper.upon_value]
  go_wp2
  go_end0
  exact ⟨rfl, rfl⟩
/-- What every writing call does first: behind it the builder holds its own address. -/
theorem check_any (B b : Nat) (xs : List Value) (w : World) (h : Lib.IsBuilder 335 5 B b xs w) :
    Calls Tryz.prog 327 #[.pointer (some ⟨b, 0, none⟩)] w fun e w' => e = .returned (.tuple #[]) ∧ Lib.BuilderAt 335 5 B b (.pointer (some ⟨b, 0, none⟩)) xs w' ∧ Below B w w' := by
  rcases h with h | h
  · refine (check_fresh b w h.cell0 h.shape h.frozen0).mono ?_
    rintro e w' ⟨rfl, rfl⟩
    exact ⟨rfl, h.used _, (Below.refl B w).setCell (p := ⟨b, 0, none⟩) h.1 _⟩
  · refine (check_used b w h.cell0).mono ?_
    rintro e w' ⟨rfl, rfl⟩
    exact ⟨rfl, h, Below.refl B _⟩
set_option maxRecDepth 100000 in
set_option maxHeartbeats 2000000 in
theorem writes_any (B b : Nat) (xs : List Value) (s : ByteArray) (w : World) (h : Lib.IsBuilder 335 5 B b xs w) (hlen : xs.length + s.size ≤ 140737488355328) (hBw : B ≤ w.heap.size) :
    Calls Tryz.prog 313 #[.pointer (some ⟨b, 0, none⟩), .string s] w fun e w' => e = .returned (.tuple #[.int .i64 s.size, .nilIface]) ∧ Lib.BuilderAt 335 5 B b (.pointer (some ⟨b, 0, none⟩)) (xs ++ Lib.strCells s) w' ∧ Below B w w' := by
  obtain ⟨i0, hi, hz0, hz1, hz2⟩ := info_parts info5
  go_enter Tryz.func313, Tryz.ntmps313
  go_wp2_with (go_at_call 327; refine (check_any B b xs _ h).mono ?_)
  rintro e w1 ⟨rfl, h1, hb1⟩
  obtain ⟨hB, v, hbk, hown, hne⟩ := h1
  have c0 : w1.cell? ⟨b, 0, none⟩ = some (.pointer (some ⟨b, 0, none⟩)) := by rw [cell_of hbk]; rfl
  have c1 : w1.cell? ⟨b, 1, none⟩ = some v := by rw [cell_of hbk]; rfl
  go_wp2_with (at_builtin; refine Lib.wpList_append_own_string _ rfl _ _ 34 9 rfl B 5 i0 Tryz.underlying34 Tryz.underlying9 hi hz0 hz1 hz2 _ _ _ rfl hown s rfl ?c3 ?c4 ?c5 ?_)
  case c3 => unfold maxLen; omega
  case c4 => omega
  case c5 => have := hb1.size; omega
  intro v' w2 hown' hgrow _
  have hb2 : w2.heap[b]? = some (.cells #[.pointer (some ⟨b, 0, none⟩), v] 335 (0, 0)) := by
    rw [hgrow.block b (lt_of_heap hbk) (fun e => hne e.symm)]
    exact hbk
  have d0 : w2.cell? ⟨b, 0, none⟩ = some (.pointer (some ⟨b, 0, none⟩)) := by rw [cell_of hb2]; rfl
  have d1 : w2.cell? ⟨b, 1, none⟩ = some v := by rw [cell_of hb2]; rfl
  have f1 : w2.frozen? ⟨b, 1, none⟩ = false := frozen_of hb2 1
  obtain ⟨ao, cap, rfl⟩ := own_form hown'
  go_wp2
  go_ret2
  refine ⟨rfl, ?_, ?_⟩
  · exact Lib.BuilderAt.put (T := 335) (e := 5) hB hb2 (bs' := xs ++ Lib.strCells s) (by simpa [Lib.strCells_length] using hown') (by decide)
  · exact (hb1.grown hgrow (by have := hb1.size; omega) (fun k hk => (hown.lt k hk).1)).setCell (p := ⟨b, 1, none⟩) hB _
theorem cells_bs (l : List UInt8) : Lib.strCells (bs l) = Lib.byteCells l := by
  simp [Lib.strCells, Lib.byteCells]
theorem byte_app (a b : List UInt8) : Lib.byteCells a ++ Lib.byteCells b = Lib.byteCells (a ++ b) := by simp [Lib.byteCells]
theorem byte_len (a : List UInt8) : (Lib.byteCells a).length = a.length := by simp [Lib.byteCells]
/-- WriteString, in lists. -/
theorem write_any (B b : Nat) (a l : List UInt8) (w : World) (h : Lib.IsBuilder 335 5 B b (Lib.byteCells a) w) (hlen : a.length + l.length ≤ 140737488355328) (hBw : B ≤ w.heap.size) :
    Calls Tryz.prog 313 #[.pointer (some ⟨b, 0, none⟩), S l] w fun e w' => e = .returned (.tuple #[.int .i64 l.length, .nilIface]) ∧ Lib.IsBuilder 335 5 B b (Lib.byteCells (a ++ l)) w' ∧ Below B w w' := by
  have hsz : (bs l).size = l.length := by simp [ByteArray.size]
  refine (writes_any B b _ (bs l) w h (by rw [byte_len, hsz]; exact hlen) hBw).mono ?_
  rintro e w' ⟨rfl, h1, h2⟩
  rw [cells_bs, byte_app] at h1
  exact ⟨by rw [hsz], .inr h1, h2⟩
end Go.Proofs.YtlngeaacjbdmhaaGreat.Nm
