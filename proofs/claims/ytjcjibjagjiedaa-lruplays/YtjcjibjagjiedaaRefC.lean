/-
  The document's list: Drop, Pin, Unpin.
-/
import Derived.Test.YtjcjibjagjiedaaRefB
namespace Go.Proofs.Ytjcjibjagjiedaa
open Go.RowKit
attribute [local go_sem ↓] Go.wp_at_zero Go.wp_at_succ

set_option maxHeartbeats 400000 in
theorem rdrop_any (base b : Nat) (mo : Int) (es : Ents) (key : ByteArray) (w : World) (h : Rl base w b mo es) (hes : es.length ≤ 1000) :
    Calls Try.prog 20 #[.pointer (some ⟨b, 0, none⟩), .string key] w fun e w' => e = .returned (.bool (has es key)) ∧ Rl base w' b mo (dropM es key) ∧ RFr base b w w' := by
  have HF := hide (rfind_any base b mo es key hes w h)
  have HL := hide h
  unfold dropM
  cases hh : has es key with
  | false =>
    rw [rpos_not hh] at HF
    clear h hh
    go_enter Try.func20, Try.ntmps20
    go_wp2_with fail
    refine (unhide HF).mono ?_
    rintro e w1 ⟨rfl, rfl⟩
    go_wp2_with fail
    go_ret
    exact ⟨rfl, unhide HL, RFr.refl _ _ _⟩
  | true =>
    obtain ⟨hp, ha⟩ := pins_at hh
    rw [rpos_has hh] at HF
    clear h hh ha
    simp only [if_true]
    generalize pins es key = v at *
    generalize ix es key = i at *
    have q : ((i : Int) < 0) = False := by simp
    have HR := hide (rout_any base b i mo es key v w (unhide HL) hp hes)
    go_enter Try.func20, Try.ntmps20
    go_wp2_with fail
    refine (unhide HF).mono ?_
    rintro e w1 ⟨rfl, rfl⟩
    clear hp HF
    go_wp2_with fail
    refine (unhide HR).mono ?_
    rintro e w2 ⟨rfl, ⟨L2, F2⟩, -, -⟩
    replace L2 := hide L2
    replace F2 := hide F2
    go_wp2_with fail
    go_ret
    exact ⟨rfl, unhide L2, unhide F2⟩
set_option maxHeartbeats 400000 in
theorem rpin_any (base b : Nat) (mo : Int) (es : Ents) (key : ByteArray) (w : World) (h : Rl base w b mo es) (hf : Fit 1000 es) :
    Calls Try.prog 21 #[.pointer (some ⟨b, 0, none⟩), .string key] w fun e w' => e = .returned (.bool (has es key)) ∧ Rl base w' b mo (pinM es key) ∧ RFr base b w w' := by
  have HF := hide (rfind_any base b mo es key hf.len w h)
  have HL := hide h
  unfold pinM
  cases hh : has es key with
  | false =>
    rw [rpos_not hh] at HF
    clear h hh hf
    go_enter Try.func21, Try.ntmps21
    go_wp2_with fail
    refine (unhide HF).mono ?_
    rintro e w1 ⟨rfl, rfl⟩
    go_wp2_with fail
    go_ret
    exact ⟨rfl, unhide HL, RFr.refl _ _ _⟩
  | true =>
    obtain ⟨hp, ha⟩ := pins_at hh
    have hpb := hf.pinsb key
    have hl := (List.getElem?_eq_some_iff.1 hp).1
    have hlen := hf.len
    rw [rpos_has hh] at HF
    clear h hh ha hf
    simp only [if_true]
    generalize pins es key = v at *
    generalize ix es key = i at *
    have L1 := unhide HL
    obtain ⟨a, cap, a0, a1, af, own⟩ := L1.cells
    obtain ⟨g, rfl, c0, c1, cf, _⟩ := own_at own hp rfl
    obtain ⟨_, hgb, _, cur, hgg⟩ := L1.gb own
    have L2 := hide (L1.setPin (x := v + 1) a1 hp)
    have F1 := hide ((RFr.refl base b w).setG hgg hgb (i * 2 + 1) (.int .i64 (v + 1)))
    have j0 : (0 : Int) ≤ (i : Int) := by omega
    have j2 : ((i : Int) < 0) = False := by simp
    have j1 : (i : Int) < (es.length : Int) := by omega
    obtain ⟨p0, p1⟩ := hpb
    clear hp L1 own a0 c0 hgg
    generalize es.length = m at *
    go_enter Try.func21, Try.ntmps21
    go_wp2_with fail
    refine (unhide HF).mono ?_
    rintro e w1 ⟨rfl, rfl⟩
    go_wp2_with fail
    go_ret
    exact ⟨rfl, unhide L2, unhide F1⟩
set_option maxHeartbeats 1000000 in
theorem runpin_any (base b : Nat) (mo : Int) (es : Ents) (key : ByteArray) (w : World) (h : Rl base w b mo es) (hf : Fit 1000 es) :
    Calls Try.prog 22 #[.pointer (some ⟨b, 0, none⟩), .string key] w fun e w' => e = .returned (.bool (has es key && decide (0 < pins es key))) ∧ Rl base w' b mo (unpinM es key) ∧ RFr base b w w' := by
  have HF := hide (rfind_any base b mo es key hf.len w h)
  have HL := hide h
  unfold unpinM
  cases hh : has es key with
  | false =>
    rw [rpos_not hh] at HF
    clear h hh hf
    go_enter Try.func22, Try.ntmps22
    go_wp2_with fail
    refine (unhide HF).mono ?_
    rintro e w1 ⟨rfl, rfl⟩
    go_wp2_with fail
    go_ret
    exact ⟨rfl, unhide HL, RFr.refl _ _ _⟩
  | true =>
    obtain ⟨hp, ha⟩ := pins_at hh
    have hpb := hf.pinsb key
    have hl := (List.getElem?_eq_some_iff.1 hp).1
    have hlen := hf.len
    rw [rpos_has hh] at HF
    clear h hh ha hf
    simp only [Bool.true_and]
    generalize pins es key = v at *
    generalize ix es key = i at *
    have L1 := unhide HL
    obtain ⟨a, cap, a0, a1, af, own⟩ := L1.cells
    obtain ⟨g, rfl, c0, c1, cf, _⟩ := own_at own hp rfl
    obtain ⟨_, hgb, _, cur, hgg⟩ := L1.gb own
    have L2 := hide (L1.setPin (x := v - 1) a1 hp)
    have F1 := hide ((RFr.refl base b w).setG hgg hgb (i * 2 + 1) (.int .i64 (v - 1)))
    have j0 : (0 : Int) ≤ (i : Int) := by omega
    have j2 : ((i : Int) < 0) = False := by simp
    have j1 : (i : Int) < (es.length : Int) := by omega
    obtain ⟨p0, p1⟩ := hpb
    clear hp L1 own a0 c0 hgg
    generalize es.length = m at *
    by_cases hv : 0 < v
    · simp only [hv, decide_true, if_true]
      have hv2 : ¬ v = 0 := by omega
      go_enter Try.func22, Try.ntmps22
      go_wp2_with fail
      refine (unhide HF).mono ?_
      rintro e w1 ⟨rfl, rfl⟩
      go_wp2_with fail
      go_ret
      exact ⟨rfl, unhide L2, unhide F1⟩
    · simp only [hv, decide_false, if_false, Bool.false_eq_true]
      obtain rfl : v = 0 := by omega
      go_enter Try.func22, Try.ntmps22
      go_wp2_with fail
      refine (unhide HF).mono ?_
      rintro e w1 ⟨rfl, rfl⟩
      go_wp2_with fail
      go_ret
      exact ⟨rfl, unhide HL, RFr.refl _ _ _⟩
end Go.Proofs.Ytjcjibjagjiedaa
