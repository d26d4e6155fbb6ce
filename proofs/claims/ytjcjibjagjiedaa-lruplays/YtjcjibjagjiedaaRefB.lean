/-
  The document's list: New, Len, find, Has, out.
-/
import Derived.Test.YtjcjibjagjiedaaRefA
namespace Go.Proofs.Ytjcjibjagjiedaa
open Go.RowKit
attribute [local go_sem ↓] Go.wp_at_zero Go.wp_at_succ

/-- Where a key lies in the list, or -1. -/
def rpos (es : Ents) (k : ByteArray) : Int := if has es k then (ix es k : Int) else -1
set_option maxHeartbeats 400000 in
theorem rnew_any (m : Int) (w : World) :
    Calls Try.prog 18 #[.int .i64 m] w fun e w' => e = .returned (.pointer (some ⟨w.heap.size, 0, none⟩)) ∧ Rl w.heap.size w' w.heap.size m [] ∧ Below w.heap.size w w' := by
  go_enter Try.func18, Try.ntmps18
  go_wp2_with fail
  go_ret
  exact ⟨rfl, ⟨⟨none, 0, putAll _ _ rfl, World.ownsRow_nil _ _ _ _⟩, Nat.le_refl _⟩, (Below.refl _ w).alloc (Nat.le_refl _) _⟩
theorem rlen_any (base b : Nat) (mo : Int) (es : Ents) (w : World) (h : Rl base w b mo es) :
    Calls Try.prog 24 #[.pointer (some ⟨b, 0, none⟩)] w fun e w' => e = .returned (.int .i64 (es.length : Int)) ∧ w' = w := by
  obtain ⟨a, cap, h0, h1, hf, own⟩ := h.cells
  clear h own
  generalize es.length = m at *
  go_enter Try.func24, Try.ntmps24
  go_wp2_with fail
  go_ret
  exact ⟨rfl, rfl⟩
set_option maxHeartbeats 1000000 in
theorem rfind_any (base b : Nat) (mo : Int) (es : Ents) (key : ByteArray) (hm : es.length ≤ 1000) (w : World) (h : Rl base w b mo es) :
    Calls Try.prog 34 #[.pointer (some ⟨b, 0, none⟩), .string key] w fun e w' => e = .returned (.int .i64 (rpos es key)) ∧ w' = w := by
  obtain ⟨a, cap, h0, h1, hf, own⟩ := h.cells
  have HO := hide own
  clear h hf own h0
  generalize hml : es.length = ml at *
  replace hml := hide hml
  go_enter Try.func34, Try.ntmps34
  go_wp2_with fail
  go_loopw [5] (fun i wr => ∃ j : Nat, j ≤ ml ∧ i = .int .i64 j ∧ Hid (∀ p ∈ es.take j, p.1 ≠ key) ∧ wr = w) (fun i _ => ml - (intOf i).toNat)
  case atStart => exact ⟨0, by omega, rfl, hide (by simp), rfl⟩
  case round =>
    obtain ⟨j, hj, rfl, hN, rfl⟩ := hrel
    by_cases hlt : j < ml
    · have j0 : (0 : Int) ≤ (j : Int) := by omega
      have j1 : (j : Int) < (ml : Int) := by omega
      obtain ⟨⟨k, v⟩, hk⟩ : ∃ p, es[j]? = some p := ⟨_, List.getElem?_eq_getElem (by rw [unhide hml]; exact hlt)⟩
      obtain ⟨g, rfl, c0, c1, _, _⟩ := own_at (unhide HO) hk (unhide hml)
      replace hk := hide hk
      by_cases he : k = key
      · subst he
        go_wp2_with fail
        go_ret
        refine ⟨?_, rfl⟩
        obtain ⟨f1, f2⟩ := ix_at (unhide hk) (unhide hN)
        simp [rpos, f1, f2]
      · have hz2 := str_ne he
        go_wp2_with fail
        refine ⟨⟨j + 1, by omega, rfl, hide ?_, trivial⟩, by simp [intOf]; omega⟩
        intro p hp
        rw [List.take_add_one, unhide hk] at hp
        rcases List.mem_append.1 hp with hp | hp
        · exact unhide hN p hp
        · simp at hp; subst hp; exact he
    · have j1 : ¬ (j : Int) < (ml : Int) := by omega
      go_wp2_with fail
      go_ret
      refine ⟨?_, rfl⟩
      have := has_none (es := es) (k := key) fun p hp => unhide hN p (by rw [List.take_of_length_le (by rw [unhide hml]; omega)]; exact hp)
      simp [rpos, this]
theorem rpos_has {es : Ents} {k : ByteArray} (h : has es k = true) : rpos es k = (ix es k : Int) := by simp [rpos, h]
theorem rpos_not {es : Ents} {k : ByteArray} (h : has es k = false) : rpos es k = -1 := by simp [rpos, h]
set_option maxHeartbeats 400000 in
theorem rhas_any (base b : Nat) (mo : Int) (es : Ents) (key : ByteArray) (hm : es.length ≤ 1000) (w : World) (h : Rl base w b mo es) :
    Calls Try.prog 26 #[.pointer (some ⟨b, 0, none⟩), .string key] w fun e w' => e = .returned (.bool (has es key)) ∧ w' = w := by
  have HF := hide (rfind_any base b mo es key hm w h)
  clear h
  cases hh : has es key with
  | true =>
    rw [rpos_has hh] at HF
    generalize ix es key = i at *
    have q : (0 : Int) ≤ (i : Int) := by omega
    clear hh
    go_enter Try.func26, Try.ntmps26
    go_wp2_with fail
    refine (unhide HF).mono ?_
    rintro e w1 ⟨rfl, rfl⟩
    go_wp2_with fail
    go_ret
    exact ⟨by simp, rfl⟩
  | false =>
    rw [rpos_not hh] at HF
    clear hh
    go_enter Try.func26, Try.ntmps26
    go_wp2_with fail
    refine (unhide HF).mono ?_
    rintro e w1 ⟨rfl, rfl⟩
    go_wp2_with fail
    go_ret
    exact ⟨rfl, rfl⟩
set_option maxRecDepth 100000 in
set_option maxHeartbeats 2000000 in
theorem rout_any (base b i : Nat) (mo : Int) (es : Ents) (k : ByteArray) (v : Int) (w : World) (h : Rl base w b mo es) (hi : es[i]? = some (k, v)) (hes : es.length ≤ 1000) :
    Calls Try.prog 35 #[.pointer (some ⟨b, 0, none⟩), .int .i64 (i : Int)] w fun e w' => e = .returned (.agg #[.string k, .int .i64 v]) ∧ (Rl base w' b mo (era es i) ∧ RFr base b w w') ∧ (∀ j, j < w.heap.size → j ≠ b → w'.heap[j]? = w.heap[j]?) ∧ ∀ g n cp, w'.cell? ⟨b, 1, none⟩ = some (.slice (some ⟨g, 0, none⟩) n cp) → w.heap.size ≤ g := by
  have hil := (List.getElem?_eq_some_iff.1 hi).1
  obtain ⟨V, hV, hsz, g0, g1, hB⟩ := two0 w (.cells #[.string ⟨#[]⟩, .int .i64 0] 63) (.cells #[.string k, .int .i64 v] 63)
  have L2 := h.below hB
  obtain ⟨a, cap, a0, a1, af, own⟩ := h.cells
  obtain ⟨g, rfl, c0, c1, cf, hgl⟩ := own_at own hi rfl
  obtain ⟨a', cap', b0, b1, bf, own2⟩ := L2.cells
  have e1 := (World.cell?_of_block (a := ⟨b, 1, none⟩) (hB.block b h.lt)).trans a1
  rw [b1] at e1
  simp only [Option.some.injEq, Value.slice.injEq] at e1
  obtain ⟨rfl, -, rfl⟩ := e1
  have hbl := h.lt
  have hbb := h.kb
  have hbs := h.base_le
  have HV1 := hide g0
  have HV2 := hide g1
  have HLb := hide L2.hb
  have hcm : es.length ≤ cap' := by
    obtain ⟨_, cp, cur, q2, _, _, q3, _⟩ := own_open own (by omega)
    simp only [Value.slice.injEq] at q2
    obtain ⟨-, -, rfl⟩ := q2
    exact q3
  have hcm2 : cap' ≤ 9223372036854775807 := by
    obtain ⟨_, cp, cur, q2, _, _, _, q3, _⟩ := own_open own (by omega)
    simp only [Value.slice.injEq] at q2
    obtain ⟨-, -, rfl⟩ := q2
    unfold maxLen at q3; omega
  have j0 : (0 : Int) ≤ (i : Int) := by omega
  have j1 : (i : Int) < (es.length : Int) := by omega
  have j2 : (0 : Int) ≤ (i : Int) + 1 := by omega
  have j3 : (i : Int) + 1 ≤ (es.length : Int) := by omega
  have j4 : i ≤ cap' := by omega
  obtain ⟨p2, hp2⟩ : ∃ p2 : Addr, (if cap' = i + 1 then some (⟨g, 0, none⟩ : Addr) else some ⟨g, (i + 1) * 2, none⟩) = some p2 := by
    by_cases hc : cap' = i + 1
    · exact ⟨⟨g, 0, none⟩, by simp [hc]⟩
    · exact ⟨⟨g, (i + 1) * 2, none⟩, by simp [hc]⟩
  obtain ⟨v1, v2, W1, W2, r1, r2, own3, hBW, hfresh, hBW1⟩ := erase_run base V g cap' es.length i es own2 rfl hil hes L2.base_le (by omega) p2 (by
    intro hlt
    by_cases hc : cap' = i + 1
    · omega
    · simp [hc] at hp2; exact hp2.symm)
  obtain ⟨a2, cp2, rfl⟩ := own_form own3
  have y0 : W2.heap[w.heap.size]? = some (.cells #[.string ⟨#[]⟩, .int .i64 0] 63) := (hBW.block _ (by omega)).trans g0
  have y1 : W2.heap[w.heap.size + 1]? = some (.cells #[.string k, .int .i64 v] 63) := (hBW.block _ (by omega)).trans g1
  obtain ⟨_, _, yb, _⟩ := unhide HLb
  have yb1 := (hBW.block b (by omega)).trans yb
  have L3 : (W2.setCell ⟨b, 1, none⟩ (.slice a2 (era es i).length cp2)).heap[b]? = some (.cells #[.int .i64 mo, .slice a2 (era es i).length cp2] 60) ∧ (W2.setCell ⟨b, 1, none⟩ (.slice a2 (era es i).length cp2)).ownsRow base 63 2 (.slice a2 (era es i).length cp2) (era es i).length (rowsOf row (era es i)) := by
    refine ⟨by rw [heap_set yb1]; simp, own_keep own3 fun j cur hc => Below.heap_setCell _ _ _ _ ?_⟩
    rintro rfl
    rw [yb1] at hc
    simp at hc
  have hk3 : ∀ j, j < w.heap.size → j ≠ b → (W2.setCell ⟨b, 1, none⟩ (.slice a2 (era es i).length cp2)).heap[j]? = w.heap[j]? := fun j h1 h2 => (Below.heap_setCell _ _ _ _ h2).trans ((hBW.block j (by omega)).trans (hB.block j h1))
  have F3 : RFr base b w (W2.setCell ⟨b, 1, none⟩ (.slice a2 (era es i).length cp2)) := (RFr.of_below (hB.trans (hBW.mono (by omega))) hbs).set (p := ⟨b, 1, none⟩) rfl hbb _
  have d1 : W1.cell? ⟨b, 1, none⟩ = some (.slice (some ⟨g, 0, none⟩) es.length cap') := (World.cell?_of_block (a := ⟨b, 1, none⟩) (hBW1.block b (by omega))).trans b1
  have z0 : W2.cell? ⟨b, 1, none⟩ = some (.slice (some ⟨g, 0, none⟩) es.length cap') := (World.cell?_of_block (a := ⟨b, 1, none⟩) (hBW.block b (by omega))).trans b1
  have zf : W2.frozen? ⟨b, 1, none⟩ = false := frozen_of yb1 1
  have dx : (V.alloc (.cells #[] 63)).cell? ⟨b, 1, none⟩ = some (.slice (some ⟨g, 0, none⟩) es.length cap') := (World.cell?_alloc_past _ _ _ (by omega)).trans b1
  have HL3 := hide L3
  have HF3 := hide F3
  have HK3 := hide hk3
  have HY0 := hide y0
  have HY1 := hide y1
  have hne : w.heap.size ≠ b := by omega
  have hne1 : w.heap.size + 1 ≠ b := by omega
  have hae : ∀ j, a2 = some ⟨j, 0, none⟩ → w.heap.size + 2 ≤ j := by
    intro j hj
    have := hfresh j (by rw [hj]; rfl)
    omega
  replace hae := hide hae
  clear L3 F3 hk3 y0 y1 yb yb1 own3 hBW hBW1 hfresh HLb HV1 HV2 g0 g1 L2 own own2 h hi hB a0 b0 cf af bf
  generalize hm2 : (era es i).length = m2 at *
  replace hm2 := hide hm2
  generalize es.length = m at *
  go_enter Try.func35, Try.ntmps35
  go_wp2_with fail
  generalize hsw : w.heap.size = hs at *
  replace hsw := hide hsw
  clear hV c0 c1 a1 hsz
  generalize hK1 : i + 1 = K1 at *
  have HK1 := hide hK1
  have e1 : (i : Int) + 1 = (K1 : Int) := by omega
  have e2 : IntKind.i64.wrap ((i : Int) + 1) = (K1 : Int) := by rw [e1, IntKind.wrap_i64]; omega
  have e3 : IntKind.i64.wrap (K1 : Int) = (K1 : Int) := by rw [IntKind.wrap_i64]; omega
  have n0 : (i : Int) ≤ (cap' : Int) := by omega
  have n2 : (0 : Int) ≤ (K1 : Int) := by omega
  have n3 : (K1 : Int) ≤ (m : Int) := by omega
  have n4 : (m : Int) ≤ (cap' : Int) := by omega
  clear hK1 j2 j3
  by_cases hlc : cap' = K1
  · rw [if_pos hlc] at hp2
    simp only [Option.some.injEq] at hp2
    subst hp2
    obtain rfl : m = K1 := by omega
    subst hlc
    simp only [Nat.sub_self] at r2
    go_region_law (first
        | (refine step_append_eq (by rfl) _ _ 58 (by rfl) 58 (by rfl) _ _ (by rfl) (by rfl) _ _ r1 ?_)
        | (refine step_append_eq (by rfl) _ _ 58 (by rfl) 58 (by rfl) _ _ (by rfl) (by rfl) _ _ r2 ?_))
    all_goals
      have x0 : (W2.setCell ⟨b, 1, none⟩ (.slice a2 m2 cp2)).heap[hs]? = some (.cells #[.string ⟨#[]⟩, .int .i64 0] 63) := (Below.heap_setCell _ _ _ _ hne).trans (unhide HY0)
      have x1 : (W2.setCell ⟨b, 1, none⟩ (.slice a2 m2 cp2)).heap[hs + 1]? = some (.cells #[.string k, .int .i64 v] 63) := (Below.heap_setCell _ _ _ _ hne1).trans (unhide HY1)
      generalize W2.setCell ⟨b, 1, none⟩ (.slice a2 m2 cp2) = w2 at *
      have z1 : w2.cell? ⟨hs + 1, 0, none⟩ = some (.string k) := by rw [cell_of x1]; rfl
      have z2 : w2.cell? ⟨hs + 1, 1, none⟩ = some (.int .i64 v) := by rw [cell_of x1]; rfl
      have z3 : w2.cell? ⟨hs, 0, none⟩ = some (.string ⟨#[]⟩) := by rw [cell_of x0]; rfl
      have z4 : w2.cell? ⟨hs, 1, none⟩ = some (.int .i64 0) := by rw [cell_of x0]; rfl
      have zf0 : ∀ j, w2.frozen? ⟨hs, j, none⟩ = false := frozen_of x0
      have HX0 := hide x0
      clear x0 x1 z0 zf r1 r2 d1 dx b1
      go_wp2_with fail
      have x1 : ((w2.setCell ⟨hs, 0, none⟩ (.string k)).setCell ⟨hs, 1, none⟩ (.int .i64 v)).heap[hs]? = some (.cells #[.string k, .int .i64 v] 63) := by
        rw [heap_set (heap_set (unhide HX0) 0 _)]; simp
      have r0 : ((w2.setCell ⟨hs, 0, none⟩ (.string k)).setCell ⟨hs, 1, none⟩ (.int .i64 v)).cell? ⟨hs, 0, none⟩ = some (.string k) := by rw [cell_of x1]; rfl
      have r1 : ((w2.setCell ⟨hs, 0, none⟩ (.string k)).setCell ⟨hs, 1, none⟩ (.int .i64 v)).cell? ⟨hs, 1, none⟩ = some (.int .i64 v) := by rw [cell_of x1]; rfl
      have hkk : ∀ j, j ≠ hs → ((w2.setCell ⟨hs, 0, none⟩ (.string k)).setCell ⟨hs, 1, none⟩ (.int .i64 v)).heap[j]? = w2.heap[j]? := fun j hj => (Below.heap_setCell _ _ _ _ hj).trans (Below.heap_setCell _ _ _ _ hj)
      refine bodyPost_ret (v := .agg #[.string k, .int .i64 v]) (by simp [results, Try.results35, go_sem, r0, r1]) rfl ⟨rfl, ⟨?_, ?_⟩, fun j h1 h2 => (hkk j (by have := unhide hsw; omega)).trans (unhide HK3 j (by have := unhide hsw; omega) h2), fun g3 n3 cp3 hc3 => ?_⟩
      · obtain ⟨l1, l2⟩ := unhide HL3
        refine ⟨⟨a2, cp2, by rw [unhide hm2]; exact (hkk b (by omega)).trans l1, ?_⟩, hbb⟩
        rw [unhide hm2]
        refine own_keepAt l2 fun j hj => hkk j ?_
        obtain ⟨g', ha⟩ := own_addr l2
        rcases ha with ⟨rfl, _, _⟩ | rfl
        · simp [Value.ownBlock] at hj
        · simp [Value.ownBlock] at hj
          subst hj
          have := unhide hae g' rfl
          omega
      · have F := unhide HF3
        exact ⟨F.os, F.tape, F.output, by simpa [World.setCell] using F.size, fun j hj => (hkk j (by omega)).trans (F.low j hj), fun j o h1 h2 h3 => (hkk j (by have := lt_of_heap h1; have := unhide hsw; omega)).trans (F.blk j o h1 h2 h3)⟩
      · rw [cell_of ((hkk b (by omega)).trans (unhide HL3).1)] at hc3
        simp at hc3
        have := unhide hae g3 hc3.1
        have := unhide hsw
        omega
  · rw [if_neg hlc] at hp2
    simp only [Option.some.injEq] at hp2
    subst hp2
    have hlc2 : ¬ K1 = cap' := fun e => hlc e.symm
    go_region_law (first
        | (refine step_append_eq (by rfl) _ _ 58 (by rfl) 58 (by rfl) _ _ (by rfl) (by rfl) _ _ r1 ?_)
        | (refine step_append_eq (by rfl) _ _ 58 (by rfl) 58 (by rfl) _ _ (by rfl) (by rfl) _ _ r2 ?_))
    all_goals
      have x0 : (W2.setCell ⟨b, 1, none⟩ (.slice a2 m2 cp2)).heap[hs]? = some (.cells #[.string ⟨#[]⟩, .int .i64 0] 63) := (Below.heap_setCell _ _ _ _ hne).trans (unhide HY0)
      have x1 : (W2.setCell ⟨b, 1, none⟩ (.slice a2 m2 cp2)).heap[hs + 1]? = some (.cells #[.string k, .int .i64 v] 63) := (Below.heap_setCell _ _ _ _ hne1).trans (unhide HY1)
      generalize W2.setCell ⟨b, 1, none⟩ (.slice a2 m2 cp2) = w2 at *
      have z1 : w2.cell? ⟨hs + 1, 0, none⟩ = some (.string k) := by rw [cell_of x1]; rfl
      have z2 : w2.cell? ⟨hs + 1, 1, none⟩ = some (.int .i64 v) := by rw [cell_of x1]; rfl
      have z3 : w2.cell? ⟨hs, 0, none⟩ = some (.string ⟨#[]⟩) := by rw [cell_of x0]; rfl
      have z4 : w2.cell? ⟨hs, 1, none⟩ = some (.int .i64 0) := by rw [cell_of x0]; rfl
      have zf0 : ∀ j, w2.frozen? ⟨hs, j, none⟩ = false := frozen_of x0
      have HX0 := hide x0
      clear x0 x1 z0 zf r1 r2 d1 dx b1
      go_wp2_with fail
      have x1 : ((w2.setCell ⟨hs, 0, none⟩ (.string k)).setCell ⟨hs, 1, none⟩ (.int .i64 v)).heap[hs]? = some (.cells #[.string k, .int .i64 v] 63) := by
        rw [heap_set (heap_set (unhide HX0) 0 _)]; simp
      have r0 : ((w2.setCell ⟨hs, 0, none⟩ (.string k)).setCell ⟨hs, 1, none⟩ (.int .i64 v)).cell? ⟨hs, 0, none⟩ = some (.string k) := by rw [cell_of x1]; rfl
      have r1 : ((w2.setCell ⟨hs, 0, none⟩ (.string k)).setCell ⟨hs, 1, none⟩ (.int .i64 v)).cell? ⟨hs, 1, none⟩ = some (.int .i64 v) := by rw [cell_of x1]; rfl
      have hkk : ∀ j, j ≠ hs → ((w2.setCell ⟨hs, 0, none⟩ (.string k)).setCell ⟨hs, 1, none⟩ (.int .i64 v)).heap[j]? = w2.heap[j]? := fun j hj => (Below.heap_setCell _ _ _ _ hj).trans (Below.heap_setCell _ _ _ _ hj)
      refine bodyPost_ret (v := .agg #[.string k, .int .i64 v]) (by simp [results, Try.results35, go_sem, r0, r1]) rfl ⟨rfl, ⟨?_, ?_⟩, fun j h1 h2 => (hkk j (by have := unhide hsw; omega)).trans (unhide HK3 j (by have := unhide hsw; omega) h2), fun g3 n3 cp3 hc3 => ?_⟩
      · obtain ⟨l1, l2⟩ := unhide HL3
        refine ⟨⟨a2, cp2, by rw [unhide hm2]; exact (hkk b (by omega)).trans l1, ?_⟩, hbb⟩
        rw [unhide hm2]
        refine own_keepAt l2 fun j hj => hkk j ?_
        obtain ⟨g', ha⟩ := own_addr l2
        rcases ha with ⟨rfl, _, _⟩ | rfl
        · simp [Value.ownBlock] at hj
        · simp [Value.ownBlock] at hj
          subst hj
          have := unhide hae g' rfl
          omega
      · have F := unhide HF3
        exact ⟨F.os, F.tape, F.output, by simpa [World.setCell] using F.size, fun j hj => (hkk j (by omega)).trans (F.low j hj), fun j o h1 h2 h3 => (hkk j (by have := lt_of_heap h1; have := unhide hsw; omega)).trans (F.blk j o h1 h2 h3)⟩
      · rw [cell_of ((hkk b (by omega)).trans (unhide HL3).1)] at hc3
        simp at hc3
        have := unhide hae g3 hc3.1
        have := unhide hsw
        omega
end Go.Proofs.Ytjcjibjagjiedaa
