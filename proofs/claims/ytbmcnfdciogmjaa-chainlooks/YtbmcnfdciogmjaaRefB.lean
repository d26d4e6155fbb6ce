/-
  The document's table: New, Get, Len, Put.
-/
import Derived.Test.YtbmcnfdciogmjaaRef
namespace Go.Proofs.Ytbmcnfdciogmjaa
open Go.RowKit Go.Sort
attribute [local go_sem ↓] Go.wp_at_zero Go.wp_at_succ

theorem pos_has {m : Pairs} {k : ByteArray} (h : has m k = true) : ∃ j : Nat, pos m k = (j : Int) ∧ m[j]? = some (k, val m k) ∧ m.findIdx (fun p => decide (p.1 = k)) = j := by
  have hl : m.findIdx (fun p => decide (p.1 = k)) < m.length := by
    rw [List.findIdx_lt_length]
    obtain ⟨v, hv⟩ := has_iff.1 h
    exact ⟨_, hv, by simp⟩
  refine ⟨_, by simp [pos, h], ?_, rfl⟩
  have h1 := List.findIdx_getElem (w := hl)
  have h2 : m.find? (fun p => decide (p.1 = k)) = some m[m.findIdx (fun p => decide (p.1 = k))] := by
    rw [List.find?_eq_getElem?_findIdx, List.getElem?_eq_getElem hl]
  rw [List.getElem?_eq_getElem hl]
  rw [decide_eq_true_eq] at h1
  simp only [val, h2, Option.map_some, Option.getD_some]
  exact congrArg some (Prod.ext h1 rfl)
set_option maxHeartbeats 400000 in
theorem rlen_any (base rb : Nat) (m : Pairs) (w : World) (h : Rf base w rb m) :
    Calls Try.prog 24 #[.pointer (some ⟨rb, 0, none⟩)] w fun e w' => e = .returned (.int .i64 (m.length : Int)) ∧ w' = w := by
  obtain ⟨a, cap, h0, hf, hc⟩ := h.cell0
  clear h hf hc
  generalize m.length = ml at *
  go_enter Try.func24, Try.ntmps24
  go_wp2_with fail
  go_ret
  exact ⟨rfl, rfl⟩
set_option maxHeartbeats 400000 in
theorem rnew_any (w : World) :
    Calls Try.prog 19 #[] w fun e w' => e = .returned (.pointer (some ⟨w.heap.size, 0, none⟩)) ∧ Rf w.heap.size w' w.heap.size [] ∧ Below w.heap.size w w' := by
  go_enter Try.func19, Try.ntmps19
  go_wp2_with fail
  go_ret
  exact ⟨rfl, ⟨⟨none, 0, putAll _ _ rfl, World.ownsRow_nil _ _ _ _⟩, Nat.le_refl _⟩, (Below.refl _ w).alloc (Nat.le_refl _) _⟩
set_option maxHeartbeats 1000000 in
theorem rget_any (base rb : Nat) (m : Pairs) (key : ByteArray) (hm : m.length ≤ 64) (w : World) (h : Rf base w rb m) :
    Calls Try.prog 23 #[.pointer (some ⟨rb, 0, none⟩), .string key] w fun e w' => e = .returned (.tuple #[.int .i64 (val m key), .bool (has m key)]) ∧ Below w.heap.size w w' := by
  have HF := hide (rfind_any base rb m key hm w h)
  cases hh : has m key with
  | false =>
    rw [show pos m key = -1 by simp [pos, hh]] at HF
    rw [val_none hh]
    clear h hh
    go_enter Try.func23, Try.ntmps23
    go_wp2_with fail
    refine (unhide HF).mono ?_
    rintro e w1 ⟨rfl, rfl⟩
    go_wp2_with fail
    go_ret2
    exact ⟨rfl, Below.refl _ _⟩
  | true =>
    obtain ⟨j, hp, hj, -⟩ := pos_has hh
    rw [hp] at HF
    obtain ⟨a, cap, h0, hf, hc⟩ := h.cell0
    obtain ⟨g, rfl, c0, c1⟩ := hc j _ _ hj
    have hl := (List.getElem?_eq_some_iff.1 hj).1
    have j0 : (0 : Int) ≤ (j : Int) := by omega
    have j2 : ¬ (j : Int) < 0 := by omega
    have j1 : (j : Int) < (m.length : Int) := by omega
    clear h hf hc hh hp hj c0 hm
    generalize val m key = v at *
    generalize m.length = ml at *
    go_enter Try.func23, Try.ntmps23
    go_wp2_with fail
    refine (unhide HF).mono ?_
    rintro e w1 ⟨rfl, rfl⟩
    go_wp2_with fail
    go_ret2
    exact ⟨rfl, Below.refl _ _⟩
end Go.Proofs.Ytbmcnfdciogmjaa
