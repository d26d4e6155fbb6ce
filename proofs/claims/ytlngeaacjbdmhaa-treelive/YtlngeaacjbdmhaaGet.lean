/-
  The contracts of what asks a tree and turns nothing: dir, file, place, find, refuses, Find, Up, Text.
-/
import Derived.Test.YtlngeaacjbdmhaaRep
namespace Go.Proofs.Ytlngeaacjbdmhaa
open Go.RowKit Go.Maps

section
variable {lo N : Nat} {W W' : World} {t : Nat} {T : Tr} {q p : Nat} {nb : Int → Nat} {ev : Int → Value}
theorem dir_some (h : TrI lo N W t T q p nb ev) {n : Int} (hn : (kl n).wf = true) {x : Nd} (hx : T.nd n = some x) : Calls Try.prog 24 #[P0 t, I n] W fun e w' => e = .returned (.tuple #[P0 (nb n), .bool (decide (x.kind = 1))]) ∧ ∃ k, w' = W.drewN k := by
  obtain ⟨c0, c1, c2, c3, cf⟩ := h.cells
  have hl := h.look_ok hn
  rw [hx] at hl
  simp only [Option.isSome_some, if_true] at hl
  obtain ⟨d0, -, -, -, -, -, -, -, -, -, df⟩ := ndcells (h.hn n x hx).1
  clear h hx
  go_enter Try.func24, Try.ntmps24
  go_wp2_with fail
  go_region
  go_wp2_with fail
  go_ret2
  refine ⟨?_, 1, rfl⟩
  by_cases hk : x.kind = 1 <;> simp [hk]
theorem dir_none (h : TrI lo N W t T q p nb ev) {n : Int} (hn : (kl n).wf = true) (hx : T.nd n = none) : Calls Try.prog 24 #[P0 t, I n] W fun e w' => e = .returned (.tuple #[.pointer none, .bool false]) ∧ ∃ k, w' = W.drewN k := by
  obtain ⟨c0, c1, c2, c3, cf⟩ := h.cells
  have hl := h.look_ok hn
  rw [hx] at hl
  simp only [Option.isSome_none, Bool.false_eq_true, if_false] at hl
  clear h hx
  go_enter Try.func24, Try.ntmps24
  go_wp2_with fail
  go_region
  go_wp2_with fail
  go_ret2
  exact ⟨rfl, 1, rfl⟩
theorem place_any {b : Nat} {x : Nd} {v : Value} (hb : W.heap[b]? = some (.cells (ndC x v) 61)) (hr : Ro lo W v x.ins) (hs : Srt x.ins) (hl : x.ins.length < 1000) (s : ByteArray) :
    Calls Try.prog 44 #[P0 b, .string s] W fun e w' => e = .returned (.tuple #[I (pos x.ins s : Nat), .bool (getE x.ins s).isSome]) ∧ Below W.heap.size W w' := by
  obtain ⟨-, -, -, -, -, -, -, d7, -, -, df⟩ := ndcells hb
  have H := hide (search_any hr hs hl s)
  clear hb hr hs hl
  go_enter Try.func44, Try.ntmps44
  go_wp2_with (go_at_call 56; refine (unhide H).mono ?_; rintro e w' ⟨rfl, hB⟩)
  go_ret2
  exact ⟨rfl, hB⟩
set_option maxHeartbeats 1000000 in
theorem find_any {b : Nat} {x : Nd} {v : Value} (hb : W.heap[b]? = some (.cells (ndC x v) 61)) (hr : Ro lo W v x.ins) (hs : Srt x.ins) (hl : x.ins.length < 1000) (s : ByteArray) :
    Calls Try.prog 30 #[P0 b, .string s] W fun e w' => e = .returned (.tuple #[I ((getE x.ins s).getD 0), .bool (getE x.ins s).isSome]) ∧ Below W.heap.size W w' := by
  obtain ⟨P, hP⟩ : ∃ P, P = pos x.ins s := ⟨_, rfl⟩
  have hat := (hs.at_pos s).2
  rw [← hP] at hat
  have H0 := place_any hb hr hs hl s
  rw [← hP] at H0
  cases e : getE x.ins s with
  | none =>
    rw [e] at H0
    have H := hide H0
    clear hb hr hs hl H0 hat hP e
    go_enter Try.func30, Try.ntmps30
    go_wp2_with (go_at_call 44; refine (unhide H).mono ?_; rintro e w' ⟨rfl, hB⟩)
    go_ret2
    exact ⟨rfl, hB⟩
  | some n =>
    rw [e] at H0
    have hPe := hat n e
    obtain ⟨hPl, -⟩ := List.getElem?_eq_some_iff.1 hPe
    rcases hr.open' with ⟨rfl, hz⟩ | ⟨g, cap, rfl, hcap, hcm, hlo, hgl, hcells⟩
    · rw [hz] at hPl; simp at hPl
    obtain ⟨k1, k2⟩ := hcells P s n hPe
    obtain ⟨L, hL⟩ : ∃ L, L = x.ins.length := ⟨_, rfl⟩
    rw [← hL] at hb hPl hl hcap
    have q1 : (P : Int) < (L : Int) := by omega
    have q2 : (0 : Int) ≤ (P : Int) := by omega
    have hmx : cap ≤ 9223372036854775807 := by unfold maxLen at hcm; omega
    have HB := hide hb
    have H := hide H0
    clear hb hr hs hl H0 hat hP e hcells hPe hcm hL
    go_enter Try.func30, Try.ntmps30
    go_wp2_with (go_at_call 44; refine (unhide H).mono ?_; rintro e w1 ⟨rfl, hB⟩; have HBB := hide hB; obtain ⟨-, -, -, -, -, -, -, d7, -, -, df⟩ := ndcells ((hB.block b (lt_of_heap (unhide HB))).trans (unhide HB)); have hgw := hB.block g hgl; have c1 : w1.cell? ⟨g, P * 2, none⟩ = some (.string s) := (cell_same hgw _).trans k1; have c2 : w1.cell? ⟨g, P * 2 + 1, none⟩ = some (.int .i64 n) := (cell_same hgw _).trans k2; clear hB hgw k1 k2)
    go_ret2
    exact ⟨rfl, unhide HBB⟩
set_option maxHeartbeats 1000000 in
theorem refuses_any {b : Nat} {x : Nd} {v : Value} (hb : W.heap[b]? = some (.cells (ndC x v) 61)) (hr : Ro lo W v x.ins) (hs : Srt x.ins) (hl : x.ins.length < 1000) (s : ByteArray) :
    Calls Try.prog 27 #[P0 b, .string s] W fun e w' => e = .returned (I (refusesE x s)) ∧ Below W.heap.size W w' := by
  have H := hide (find_any hb hr hs hl s)
  have HB := hide hb
  obtain ⟨o, ho⟩ : ∃ o, o = getE x.ins s := ⟨_, rfl⟩
  rw [← ho] at H
  unfold refusesE
  rw [← ho]
  clear hb hr hs hl ho
  cases o with
  | some n =>
    simp only [Option.isSome_some, if_true]
    go_enter Try.func27, Try.ntmps27
    go_wp2_with (go_at_call 30; refine (unhide H).mono ?_; rintro e w' ⟨rfl, hB⟩)
    go_ret
    exact ⟨rfl, hB⟩
  | none =>
    simp only [Option.isSome_none, Bool.false_eq_true, if_false]
    have H4 : Hid (∀ w1, Below W.heap.size W w1 → w1.cell? ⟨b, 4, none⟩ = some (I (x.names : Int)) ∧ ∀ i, w1.frozen? ⟨b, i, none⟩ = false) := fun w1 hB => by
      obtain ⟨-, -, -, -, d4, -, -, -, -, -, df⟩ := ndcells ((hB.block b (lt_of_heap (unhide HB))).trans (unhide HB))
      exact ⟨d4, df⟩
    obtain ⟨k, hk⟩ : ∃ k, k = x.names := ⟨_, rfl⟩
    rw [← hk] at H4 ⊢
    clear hk HB
    by_cases hz : k = 0
    · subst hz
      go_enter Try.func27, Try.ntmps27
      go_wp2_with (go_at_call 30; refine (unhide H).mono ?_; rintro e w1 ⟨rfl, hB⟩; obtain ⟨d4, df⟩ := unhide H4 w1 hB; have HBB := hide hB; clear hB)
      go_ret
      exact ⟨rfl, unhide HBB⟩
    · have hz2 : ¬ ((k : Int) = 0) := by omega
      go_enter Try.func27, Try.ntmps27
      go_wp2_with (go_at_call 30; refine (unhide H).mono ?_; rintro e w1 ⟨rfl, hB⟩; obtain ⟨d4, df⟩ := unhide H4 w1 hB; have HBB := hide hB; clear hB)
      go_ret
      exact ⟨rfl, unhide HBB⟩
end
end Go.Proofs.Ytlngeaacjbdmhaa
