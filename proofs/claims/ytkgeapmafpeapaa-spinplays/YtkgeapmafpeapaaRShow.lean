/-
  The contracts of Shown and same.
-/
import Derived.Test.YtkgeapmafpeapaaRFacts
namespace Go.Proofs.Ytkgeapmafpeapaa
open Go.RowKit
attribute [local go_sem ↓] Go.wp_at_zero Go.wp_at_succ

def St.told (s : St) : Value := .agg #[.bool s.done, .int .i64 s.sA, .int .i64 s.sB, .int .i64 s.tries]
def St.shown (s : St) : St := if s.done = true then s else ⟨false, 0, 0, s.tries⟩

set_option maxHeartbeats 1000000 in
theorem shown_y (d : Bool) (A B t : Int) (w : World) (h : d = true) :
    Calls Try.prog 32 #[.agg #[.bool d, .int .i64 A, .int .i64 B, .int .i64 t]] w fun e w' => e = .returned (.agg #[.bool true, .int .i64 A, .int .i64 B, .int .i64 t]) ∧ Below w.heap.size w w' := by
  subst h
  go_enter Try.func32, Try.ntmps32
  go_wp2_with fail
  exact bodyPost_ret (v := .agg #[.bool true, .int .i64 A, .int .i64 B, .int .i64 t]) (by simp [results, Try.results32, go_sem]) rfl ⟨rfl, ((Below.refl _ _).alloc (Nat.le_refl _) _).alloc (by simp) _⟩
set_option maxHeartbeats 1000000 in
theorem shown_n (d : Bool) (A B t : Int) (w : World) (h : d = false) :
    Calls Try.prog 32 #[.agg #[.bool d, .int .i64 A, .int .i64 B, .int .i64 t]] w fun e w' => e = .returned (.agg #[.bool false, .int .i64 0, .int .i64 0, .int .i64 t]) ∧ Below w.heap.size w w' := by
  subst h
  go_enter Try.func32, Try.ntmps32
  go_wp2_with fail
  exact bodyPost_ret (v := .agg #[.bool false, .int .i64 0, .int .i64 0, .int .i64 t]) (by simp [results, Try.results32, go_sem]) rfl ⟨rfl, ((Below.refl _ _).alloc (Nat.le_refl _) _).alloc (by simp) _⟩
theorem shown_any (s : St) (w : World) : Calls Try.prog 32 #[s.told] w fun e w' => e = .returned s.shown.told ∧ Below w.heap.size w w' := by
  cases hd : s.done
  · have e : s.shown.told = .agg #[.bool false, .int .i64 0, .int .i64 0, .int .i64 s.tries] := by simp [St.shown, hd, St.told]
    rw [e]
    exact shown_n _ _ _ _ w hd
  · have e : s.shown.told = .agg #[.bool true, .int .i64 s.sA, .int .i64 s.sB, .int .i64 s.tries] := by simp [St.shown, hd, St.told]
    rw [e]
    exact shown_y _ _ _ _ w hd

set_option maxHeartbeats 1000000 in
theorem same_yes (t : St) (w : World) :
    Calls Try.prog 21 #[t.shown.told, t.told] w fun e w' => e = .returned (.bool true) ∧ Below w.heap.size w w' := by
  have K := fun W => shown_any t W
  generalize t.shown = s at *
  unfold St.told at *
  have HK := hide K
  clear K
  go_enter Try.func21, Try.ntmps21
  go_wp2_with fail
  refine (unhide HK _).mono ?_
  rintro e w1 ⟨rfl, hB⟩
  generalize hW2 : (w.alloc (.cells #[.bool s.done, .int .i64 s.sA, .int .i64 s.sB, .int .i64 s.tries] 33)).alloc (.cells #[.bool t.done, .int .i64 t.sA, .int .i64 t.sB, .int .i64 t.tries] 50) = W2 at *
  have z2 : W2.heap.size = w.heap.size + 2 := by rw [← hW2]; simp
  have q0 : W2.heap[w.heap.size]? = some (.cells #[.bool s.done, .int .i64 s.sA, .int .i64 s.sB, .int .i64 s.tries] 33) := by
    rw [← hW2, Below.heap_alloc _ _ _ (by simp)]; exact putAll _ _ rfl
  have q1 : W2.heap[w.heap.size + 1]? = some (.cells #[.bool t.done, .int .i64 t.sA, .int .i64 t.sB, .int .i64 t.tries] 50) := by
    rw [← hW2]; exact putAll _ _ (by simp)
  have hB0 : Below w.heap.size w W2 := by rw [← hW2]; exact ((Below.refl _ _).alloc (Nat.le_refl _) _).alloc (by simp) _
  have p0 := (hB.block w.heap.size (by omega)).trans q0
  have p1 := (hB.block (w.heap.size + 1) (by omega)).trans q1
  have HB : Hid (∀ (v0 v1 v2 v3 : Value), Below w.heap.size w ((((w1.setCell ⟨w.heap.size + 1, 0, none⟩ v0).setCell ⟨w.heap.size + 1, 1, none⟩ v1).setCell ⟨w.heap.size + 1, 2, none⟩ v2).setCell ⟨w.heap.size + 1, 3, none⟩ v3)) := by
    intro v0 v1 v2 v3
    have hb : Below w.heap.size w w1 := hB0.trans (hB.mono (by omega))
    exact (((hb.setCell (p := ⟨w.heap.size + 1, 0, none⟩) (Nat.le_succ _) v0).setCell (p := ⟨w.heap.size + 1, 1, none⟩) (Nat.le_succ _) v1).setCell (p := ⟨w.heap.size + 1, 2, none⟩) (Nat.le_succ _) v2).setCell (p := ⟨w.heap.size + 1, 3, none⟩) (Nat.le_succ _) v3
  have c0 : w1.cell? ⟨w.heap.size, 0, none⟩ = some (.bool s.done) := by rw [cell_of p0]; rfl
  have c1 : w1.cell? ⟨w.heap.size, 1, none⟩ = some (.int .i64 s.sA) := by rw [cell_of p0]; rfl
  have c2 : w1.cell? ⟨w.heap.size, 2, none⟩ = some (.int .i64 s.sB) := by rw [cell_of p0]; rfl
  have c3 : w1.cell? ⟨w.heap.size, 3, none⟩ = some (.int .i64 s.tries) := by rw [cell_of p0]; rfl
  have d0 : w1.cell? ⟨w.heap.size + 1, 0, none⟩ = some (.bool t.done) := by rw [cell_of p1]; rfl
  have d1 : w1.cell? ⟨w.heap.size + 1, 1, none⟩ = some (.int .i64 t.sA) := by rw [cell_of p1]; rfl
  have d2 : w1.cell? ⟨w.heap.size + 1, 2, none⟩ = some (.int .i64 t.sB) := by rw [cell_of p1]; rfl
  have d3 : w1.cell? ⟨w.heap.size + 1, 3, none⟩ = some (.int .i64 t.tries) := by rw [cell_of p1]; rfl
  have fz := frozen_of p1
  clear hB hB0 p0 p1 q0 q1 z2 hW2
  generalize hg : w.heap.size = g at *
  have HG := hide hg
  clear hg
  have g1 : ¬ g = g + 1 := by omega
  go_wp2_with fail
  go_ret
  refine ⟨rfl, ?_⟩
  rw [unhide HG]
  exact unhide HB _ _ _ _
end Go.Proofs.Ytkgeapmafpeapaa
