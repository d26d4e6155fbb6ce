/-
  The contracts of Drop, Pin and Unpin, each by what it leaves of the plain list of entries.
-/
import Derived.Test.YtjcjibjagjiedaaRem
namespace Go.Proofs.Ytjcjibjagjiedaa
open Go.RowKit
attribute [local go_sem ↓] Go.wp_at_zero Go.wp_at_succ

/-- How often the key is pinned. -/
def pins (es : Ents) (k : ByteArray) : Int := ((es[ix es k]?).map (·.2)).getD 0
def dropM (es : Ents) (k : ByteArray) : Ents := if has es k then era es (ix es k) else es
def pinM (es : Ents) (k : ByteArray) : Ents := if has es k then es.set (ix es k) (k, pins es k + 1) else es
def unpinM (es : Ents) (k : ByteArray) : Ents := if has es k && decide (0 < pins es k) then es.set (ix es k) (k, pins es k - 1) else es
theorem pins_at {es : Ents} {k : ByteArray} (h : has es k = true) : es[ix es k]? = some (k, pins es k) ∧ at_ es k = (ix es k : Int) := by
  obtain ⟨v, hv, _⟩ := has_at h
  refine ⟨by rw [hv]; simp [pins, hv], by simp [at_, h]⟩
/-- No key is pinned less than never, or more than so often; there are no more than so many. -/
structure Fit (t : Nat) (es : Ents) : Prop where
  len : es.length ≤ t
  pin : ∀ p ∈ es, 0 ≤ p.2 ∧ p.2 ≤ (t : Int)
theorem Fit.nil (t : Nat) : Fit t [] := ⟨by simp, by simp⟩
theorem Fit.mono {t t' : Nat} {es : Ents} (h : Fit t es) (ht : t ≤ t') : Fit t' es := ⟨by have := h.len; omega, fun p hp => by have := h.pin p hp; omega⟩
theorem era_mem {es : Ents} {i : Nat} {p : ByteArray × Int} (h : p ∈ era es i) : p ∈ es := by
  rcases List.mem_append.1 h with h | h
  · exact List.mem_of_mem_take h
  · exact List.mem_of_mem_drop h
theorem Fit.era {t : Nat} {es : Ents} (h : Fit t es) (i : Nat) : Fit t (era es i) := ⟨by have := h.len; have := era_len_le es i; omega, fun p hp => h.pin p (era_mem hp)⟩
theorem Fit.drop {t : Nat} {es : Ents} (h : Fit t es) (k : ByteArray) : Fit t (dropM es k) := by
  unfold dropM; split
  · exact h.era _
  · exact h
theorem Fit.pinsb {t : Nat} {es : Ents} (h : Fit t es) (k : ByteArray) : 0 ≤ pins es k ∧ pins es k ≤ (t : Int) := by
  unfold pins
  cases e : es[ix es k]? with
  | none => simp
  | some p => exact h.pin p (List.mem_of_getElem? e)
theorem Fit.set {t : Nat} {es : Ents} (h : Fit t es) (i : Nat) (k : ByteArray) {x : Int} (h0 : 0 ≤ x) (h1 : x ≤ (t : Int)) : Fit t (es.set i (k, x)) := by
  refine ⟨by simpa using h.len, fun p hp => ?_⟩
  rcases List.mem_or_eq_of_mem_set hp with hp | rfl
  · exact h.pin p hp
  · exact ⟨h0, h1⟩
theorem Fit.pinM {t : Nat} {es : Ents} (h : Fit t es) (k : ByteArray) : Fit (t + 1) (pinM es k) := by
  unfold Ytjcjibjagjiedaa.pinM; split
  · have := h.pinsb k; exact (h.mono (by omega)).set _ _ (by omega) (by omega)
  · exact h.mono (by omega)
theorem Fit.unpinM {t : Nat} {es : Ents} (h : Fit t es) (k : ByteArray) : Fit t (unpinM es k) := by
  unfold Ytjcjibjagjiedaa.unpinM; split
  · rename_i h1; simp at h1
    have := h.pinsb k; exact h.set _ _ (by omega) (by omega)
  · exact h

theorem Ls.gb {base : Nat} {W : World} {b g : Nat} {mo : Int} {es : Ents} {m cap : Nat} (h : Ls base W b mo es) (own : W.ownsRow base 54 2 (.slice (some ⟨g, 0, none⟩) m cap) m (rowsOf row es)) : g ≠ b ∧ base ≤ g ∧ g < W.heap.size ∧ ∃ cur, W.heap[g]? = some (.cells cur 54) := by
  obtain ⟨_, ⟨e0, _⟩ | ⟨g', cap', cur, e0, hgb, hgg, _⟩⟩ := own
  · simp at e0
  simp only [Value.slice.injEq, Option.some.injEq, Addr.mk.injEq] at e0
  obtain ⟨⟨rfl, -, -⟩, -, rfl⟩ := e0
  refine ⟨?_, hgb, lt_of_heap hgg, cur, hgg⟩
  rintro rfl
  obtain ⟨_, _, q1, _⟩ := h.hb
  rw [q1] at hgg; simp at hgg
theorem Ls.setPin {base : Nat} {W : World} {b g : Nat} {mo : Int} {es : Ents} {cap i : Nat} {k : ByteArray} {v x : Int} (h : Ls base W b mo es) (a1 : W.cell? ⟨b, 1, none⟩ = some (.slice (some ⟨g, 0, none⟩) es.length cap)) (hi : es[i]? = some (k, v)) : Ls base (W.setCell ⟨g, i * 2 + 1, none⟩ (.int .i64 x)) b mo (es.set i (k, x)) := by
  obtain ⟨a, cap', h1, own⟩ := h.hb
  have e1 : W.cell? ⟨b, 1, none⟩ = some (.slice a es.length cap') := by rw [cell_of h1]; rfl
  rw [a1] at e1
  simp only [Option.some.injEq, Value.slice.injEq] at e1
  obtain ⟨rfl, -, rfl⟩ := e1
  have hl := (List.getElem?_eq_some_iff.1 hi).1
  obtain ⟨hgb, _⟩ := h.gb own
  refine ⟨⟨some ⟨g, 0, none⟩, cap, ?_, ?_⟩, h.kb⟩
  · rw [Below.heap_setCell _ _ _ _ (Ne.symm hgb), List.length_set]; exact h1
  · obtain ⟨h0, ⟨e0, _⟩ | ⟨g', cap', cur, e0, hgb, hgg, hcap, hcm, hcs, htk⟩⟩ := own
    · simp at e0
    simp only [Value.slice.injEq, Option.some.injEq, Addr.mk.injEq] at e0
    obtain ⟨⟨rfl, -, -⟩, -, rfl⟩ := e0
    have hr := rowsOf_set row 2 row_length es i 1 (k, v) (k, x) (.int .i64 x) hi (by omega) rfl
    refine ⟨by rw [rows_len], .inr ⟨g, cap, _, by rw [List.length_set], hgb, heap_set hgg _ _, by rw [List.length_set]; exact hcap, hcm, by simpa using hcs, ?_⟩⟩
    rw [← hr, List.length_set, ← htk, Array.toList_setIfInBounds, List.take_set, show 2 * i + 1 = i * 2 + 1 by omega]
theorem Fr.setG {base b g : Nat} {u w : World} {cur : Array Value} (h : Fr base b u w) (hg : w.heap[g]? = some (.cells cur 54)) (hb : base ≤ g) (i : Nat) (v : Value) : Fr base b u (w.setCell ⟨g, i, none⟩ v) :=
  h.trans ⟨rfl, rfl, rfl, by simp [World.setCell], fun k hk => Below.heap_setCell _ _ _ _ (by simp; omega), fun k o h1 _ h3 => (Below.heap_setCell _ _ _ _ (by rintro rfl; rw [hg] at h1; exact h3 _ (Option.some.inj h1).symm)).trans h1⟩

set_option maxHeartbeats 400000 in
theorem drop_any (base b : Nat) (mo : Int) (es : Ents) (key : ByteArray) (w : World) (h : Ls base w b mo es) (hes : es.length ≤ 1000) :
    Calls Try.prog 16 #[.pointer (some ⟨b, 0, none⟩), .string key] w fun e w' => e = .returned (.bool (has es key)) ∧ Ls base w' b mo (dropM es key) ∧ Fr base b w w' := by
  have HF := hide (find_any base b mo es key w h hes)
  have HL := hide h
  unfold dropM
  cases hh : has es key with
  | false =>
    rw [hh] at HF
    clear h hh
    generalize at_ es key = x at *
    go_enter Try.func16, Try.ntmps16
    go_wp2_with fail
    refine (unhide HF).mono ?_
    rintro e w1 ⟨rfl, hB⟩
    replace hB := hide hB
    go_wp2_with fail
    go_ret
    exact ⟨rfl, (unhide HL).below (unhide hB), .of_below (unhide hB) (unhide HL).base_le⟩
  | true =>
    obtain ⟨hp, ha⟩ := pins_at hh
    rw [hh, ha] at HF
    clear h hh ha
    simp only [if_true]
    generalize pins es key = v at *
    generalize ix es key = i at *
    go_enter Try.func16, Try.ntmps16
    go_wp2_with fail
    refine (unhide HF).mono ?_
    rintro e w1 ⟨rfl, hB⟩
    have HR := hide (remove_any base b i mo es key v w1 ((unhide HL).below hB) hp hes)
    have F1 := hide (Fr.of_below (base := base) (b := b) hB (unhide HL).base_le)
    clear hB hp HF
    go_wp2_with fail
    refine (unhide HR).mono ?_
    rintro e w2 ⟨rfl, L2, F2⟩
    replace L2 := hide L2
    replace F2 := hide F2
    go_wp2_with fail
    go_ret
    exact ⟨rfl, unhide L2, (unhide F1).trans (unhide F2)⟩
set_option maxHeartbeats 400000 in
theorem pin_any (base b : Nat) (mo : Int) (es : Ents) (key : ByteArray) (w : World) (h : Ls base w b mo es) (hf : Fit 1000 es) :
    Calls Try.prog 10 #[.pointer (some ⟨b, 0, none⟩), .string key] w fun e w' => e = .returned (.bool (has es key)) ∧ Ls base w' b mo (pinM es key) ∧ Fr base b w w' := by
  have HF := hide (find_any base b mo es key w h hf.len)
  have HL := hide h
  unfold pinM
  cases hh : has es key with
  | false =>
    rw [hh] at HF
    clear h hh hf
    generalize at_ es key = x at *
    go_enter Try.func10, Try.ntmps10
    go_wp2_with fail
    refine (unhide HF).mono ?_
    rintro e w1 ⟨rfl, hB⟩
    replace hB := hide hB
    go_wp2_with fail
    go_ret
    exact ⟨rfl, (unhide HL).below (unhide hB), .of_below (unhide hB) (unhide HL).base_le⟩
  | true =>
    obtain ⟨hp, ha⟩ := pins_at hh
    have hpb := hf.pinsb key
    have hl := (List.getElem?_eq_some_iff.1 hp).1
    have hlen := hf.len
    rw [hh, ha] at HF
    clear h hh ha hf
    simp only [if_true]
    generalize pins es key = v at *
    generalize ix es key = i at *
    go_enter Try.func10, Try.ntmps10
    go_wp2_with fail
    refine (unhide HF).mono ?_
    rintro e w1 ⟨rfl, hB⟩
    have L1 := (unhide HL).below hB
    obtain ⟨a, cap, a0, a1, af, own⟩ := L1.cells
    obtain ⟨g, rfl, c0, c1, cf, _⟩ := own_at own hp rfl
    obtain ⟨_, hgb, _, cur, hgg⟩ := L1.gb own
    have L2 := hide (L1.setPin (x := v + 1) a1 hp)
    have F1 := hide ((Fr.of_below (base := base) (b := b) hB (unhide HL).base_le).setG hgg hgb (i * 2 + 1) (.int .i64 (v + 1)))
    have j0 : (0 : Int) ≤ (i : Int) := by omega
    have j1 : (i : Int) < (es.length : Int) := by omega
    obtain ⟨p0, p1⟩ := hpb
    clear hB hp HF L1 own a0 c0 hgg
    generalize es.length = m at *
    go_wp2_with fail
    go_ret
    exact ⟨rfl, unhide L2, unhide F1⟩
set_option maxHeartbeats 1000000 in
theorem unpin_any (base b : Nat) (mo : Int) (es : Ents) (key : ByteArray) (w : World) (h : Ls base w b mo es) (hf : Fit 1000 es) :
    Calls Try.prog 13 #[.pointer (some ⟨b, 0, none⟩), .string key] w fun e w' => e = .returned (.bool (has es key && decide (0 < pins es key))) ∧ Ls base w' b mo (unpinM es key) ∧ Fr base b w w' := by
  have HF := hide (find_any base b mo es key w h hf.len)
  have HL := hide h
  unfold unpinM
  cases hh : has es key with
  | false =>
    rw [hh] at HF
    clear h hh hf
    generalize at_ es key = x at *
    go_enter Try.func13, Try.ntmps13
    go_wp2_with fail
    refine (unhide HF).mono ?_
    rintro e w1 ⟨rfl, hB⟩
    replace hB := hide hB
    go_wp2_with fail
    go_ret
    exact ⟨rfl, (unhide HL).below (unhide hB), .of_below (unhide hB) (unhide HL).base_le⟩
  | true =>
    obtain ⟨hp, ha⟩ := pins_at hh
    have hpb := hf.pinsb key
    have hl := (List.getElem?_eq_some_iff.1 hp).1
    have hlen := hf.len
    rw [hh, ha] at HF
    clear h hh ha hf
    simp only [Bool.true_and]
    generalize pins es key = v at *
    generalize ix es key = i at *
    by_cases hv : 0 < v
    · simp only [hv, decide_true, if_true]
      go_enter Try.func13, Try.ntmps13
      go_wp2_with fail
      refine (unhide HF).mono ?_
      rintro e w1 ⟨rfl, hB⟩
      have L1 := (unhide HL).below hB
      obtain ⟨a, cap, a0, a1, af, own⟩ := L1.cells
      obtain ⟨g, rfl, c0, c1, cf, _⟩ := own_at own hp rfl
      obtain ⟨_, hgb, _, cur, hgg⟩ := L1.gb own
      have L2 := hide (L1.setPin (x := v - 1) a1 hp)
      have HL1 := hide L1
      have F0 := hide (Fr.of_below (base := base) (b := b) hB (unhide HL).base_le)
      have F1 := hide ((Fr.of_below (base := base) (b := b) hB (unhide HL).base_le).setG hgg hgb (i * 2 + 1) (.int .i64 (v - 1)))
      have j0 : (0 : Int) ≤ (i : Int) := by omega
      have j1 : (i : Int) < (es.length : Int) := by omega
      obtain ⟨p0, p1⟩ := hpb
      have HP := hide (pinned_any g (i * 2) v w1 c1)
      clear hB hp HF L1 own a0 c0 hgg
      generalize es.length = m at *
      rw [decide_eq_true hv] at HP
      go_wp2_with fail
      refine (unhide HP).mono ?_
      rintro e w2 ⟨rfl, rfl⟩
      go_wp2_with fail
      go_ret
      exact ⟨rfl, unhide L2, unhide F1⟩
    · simp only [hv, decide_false, if_false, Bool.false_eq_true]
      go_enter Try.func13, Try.ntmps13
      go_wp2_with fail
      refine (unhide HF).mono ?_
      rintro e w1 ⟨rfl, hB⟩
      have L1 := (unhide HL).below hB
      obtain ⟨a, cap, a0, a1, af, own⟩ := L1.cells
      obtain ⟨g, rfl, c0, c1, cf, _⟩ := own_at own hp rfl
      obtain ⟨_, hgb, _, cur, hgg⟩ := L1.gb own
      have L2 := hide (L1.setPin (x := v - 1) a1 hp)
      have HL1 := hide L1
      have F0 := hide (Fr.of_below (base := base) (b := b) hB (unhide HL).base_le)
      have F1 := hide ((Fr.of_below (base := base) (b := b) hB (unhide HL).base_le).setG hgg hgb (i * 2 + 1) (.int .i64 (v - 1)))
      have j0 : (0 : Int) ≤ (i : Int) := by omega
      have j1 : (i : Int) < (es.length : Int) := by omega
      obtain ⟨p0, p1⟩ := hpb
      have HP := hide (pinned_any g (i * 2) v w1 c1)
      clear hB hp HF L1 own a0 c0 hgg
      generalize es.length = m at *
      rw [decide_eq_false (show ¬ 0 < v by omega)] at HP
      go_wp2_with fail
      refine (unhide HP).mono ?_
      rintro e w2 ⟨rfl, rfl⟩
      go_wp2_with fail
      go_ret
      exact ⟨rfl, unhide HL1, unhide F0⟩
end Go.Proofs.Ytjcjibjagjiedaa
