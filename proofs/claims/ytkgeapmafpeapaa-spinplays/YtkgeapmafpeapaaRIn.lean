/-
  The contract of in: the jobs of the program as jobs of the document.
-/
import Derived.Test.YtkgeapmafpeapaaRAll
import Derived.Deep.RegionLaw
import Derived.Maps.AppendAt
namespace Go.Proofs.Ytkgeapmafpeapaa
open Go.RowKit
attribute [local go_sem ↓] Go.wp_at_zero Go.wp_at_succ

theorem info82 : (Try.prog.info? 82).map (fun i => (i.zero, i.size, i.bytes)) = some (some (.agg #[.int .i64 0, .int .i64 0, .int .i64 0, .int .i64 0, .int .i64 0]), 5, 40) := by kernel_rfl

/-- An append whose run is known, at a step of a region that draws its order. -/
theorem step_append_eq {P : Program} {w : World} {ops : Array Oper} {o : Oper} {a : Act} {K : Act → World → Prop} {Q : Exit → Act → World → Prop} {E : Prop} (hgd : o.guard = none) (s x : Operand) (t : TypeId)
    (ho : o.op = .call { callee := .builtin .append, args := #[s, x], argTypes := #[t, t] }) (ty : TypeId) (hty : o.type = ty) (vs vx : Value) (hs : a.eval s = vs) (hx : a.eval x = vx) (v' : Value) (w' : World)
    (hrun : (Builtin.append_ #[t, t] ty #[vs, vx]).run P w = .ok v' w') (h : K (a.put o.dst v') w') :
    if Region.wanted o (yielded ops a.tmps) = true then Oper.wp P o a w K Q else E := by
  have hw : Region.wanted o (yielded ops a.tmps) = true := by simp [Region.wanted, hgd]
  rw [if_pos hw]
  unfold Oper.wp execOp
  simp only [ho, resolve, invoke, builtin, Sem.run_bind, Sem.run_pure, Result.andThen_ok, List.map_toArray, List.map_cons, List.map_nil, hs, hx, hty, hrun]
  exact h

theorem cells_new (w : World) (cs : List Value) (t : TypeId) : ∀ (j : Nat) (u : Value), cs[j]? = some u → (w.alloc (.cells cs.toArray t)).cell? ((⟨w.heap.size, 0, none⟩ : Addr).add j) = some u := by
  intro j u hj
  have ea : (⟨w.heap.size, 0, none⟩ : Addr).add j = ⟨w.heap.size, j, none⟩ := by unfold Addr.add; split <;> simp_all
  rw [ea, cell_of (putAll (w := w) (.cells cs.toArray t) w.heap.size rfl), List.getElem?_toArray]; exact hj
theorem jb_one (x : Jb) : ∀ u ∈ Jb.row x, u.oneCell' = true := by
  intro u hu
  simp only [Jb.row, List.mem_cons, List.not_mem_nil, or_false] at hu
  rcases hu with rfl | rfl | rfl | rfl | rfl <;> rfl
theorem own_form {W : World} {base : Nat} {e : TypeId} {s n : Nat} {v : Value} {xs : List Value} (h : W.ownsRow base e s v n xs) : ∃ a cap, v = .slice a n cap := by
  rcases h.2 with h | ⟨g, cap, cur, h, -⟩
  · exact ⟨none, 0, by rw [h.1, h.2]⟩
  · exact ⟨_, cap, h⟩

set_option maxRecDepth 100000 in
set_option maxHeartbeats 1000000 in
theorem rin (l cap : Nat) (pa : Option Addr) (js : List Jb) (w : World) (hJ : JobsAt w pa js) (hl : js.length = l) (l10 : l ≤ 10) :
    Calls Try.prog 18 #[.slice pa l cap] w fun e w' => ∃ v, e = .returned v ∧ w'.ownsRow w.heap.size 82 5 v l (rowsOf Jb.row js) ∧ Below w.heap.size w w' := by
  obtain ⟨i0, hi, hz0, hz1, hz2⟩ := info_parts info82
  obtain ⟨hh, ehh⟩ : ∃ hh, w.heap.size = hh := ⟨_, rfl⟩
  have HJ := hide hJ
  have HL := hide hl
  have HE := hide ehh
  rw [ehh]
  clear hJ hl ehh
  go_enter Try.func18, Try.ntmps18
  go_wp2_with fail
  go_loopw [3, 4] (fun v i wr => ∃ k : Nat, k ≤ l ∧ i = .int .i64 k ∧ wr.ownsRow hh 82 5 v k (rowsOf Jb.row (js.take k)) ∧ Below hh w wr ∧ hh ≤ wr.heap.size) (fun _ i _ => l - (intOf i).toNat)
  case atStart => exact ⟨0, Nat.zero_le _, rfl, World.ownsRow_nil _ _ _ _, Below.refl _ _, by rw [unhide HE]; exact Nat.le_refl _⟩
  case round =>
    obtain ⟨k, hk, rfl, hown, hB, hs⟩ := hrel
    by_cases hkn : k < l
    · have j1 : (k : Int) < (l : Int) := by omega
      have hkx : k < js.length := by rw [unhide HL]; exact hkn
      obtain ⟨jb, jo, rfl, hjl, o0, o1, o2, o3, o4⟩ := unhide HJ k _ (List.getElem?_eq_getElem hkx)
      rw [unhide HE] at hjl
      have d0 := (hB.cell (p := ⟨jb, jo + k * 5, none⟩) hjl).trans o0
      have d1 := (hB.cell (p := ⟨jb, jo + k * 5 + 1, none⟩) hjl).trans o1
      have d2 := (hB.cell (p := ⟨jb, jo + k * 5 + 2, none⟩) hjl).trans o2
      have d3 := (hB.cell (p := ⟨jb, jo + k * 5 + 3, none⟩) hjl).trans o3
      have d4 := (hB.cell (p := ⟨jb, jo + k * 5 + 4, none⟩) hjl).trans o4
      have et : js.take (k + 1) = js.take k ++ [js[k]] := by
        rw [List.take_add_one]; simp [hkx]
      have ET := hide et
      clear et
      generalize js[k] = t at *
      have hownd : wr.drew.ownsRow hh 82 5 u3 k (rowsOf Jb.row (js.take k)) := hown.drew
      have hBd : Below hh w wr.drew := ⟨hB.os, hB.tape, hB.output, hB.size, hB.block⟩
      have hsd : hh ≤ wr.drew.heap.size := hs
      obtain ⟨v', w3, hrun, hown', hgrow, -, -⟩ := run_append_own_at (P := Try.prog) (wr.drew.alloc (.cells #[.int .i64 t.kind, .int .i64 t.at_, .int .i64 t.work, .int .i64 t.A, .int .i64 t.B] 82)) hh 48 48 82 i0 _ 5 40 Try.underlying48 hi hz0 hz1 hz2 rfl (by decide) u3 _ _ (hownd.alloc _) ⟨wr.drew.heap.size, 0, none⟩ 1 1 t.row rfl (cells_new wr.drew t.row 82) (jb_one t) (by unfold maxLen; omega) (by omega) (by simp; omega)
      have hB1 := grown_below hBd hownd hgrow hsd
      have hs1 : hh ≤ w3.heap.size := by have := hgrow.size; simp at this; omega
      have hown1 : w3.ownsRow hh 82 5 v' (k + 1) (rowsOf Jb.row (js.take (k + 1))) := by
        rw [unhide ET, rows_snoc]; exact hown'
      have q0 := (hB1.cell (p := ⟨jb, jo + k * 5, none⟩) hjl).trans o0
      have q1 := (hB1.cell (p := ⟨jb, jo + k * 5 + 1, none⟩) hjl).trans o1
      have q2 := (hB1.cell (p := ⟨jb, jo + k * 5 + 2, none⟩) hjl).trans o2
      have q3 := (hB1.cell (p := ⟨jb, jo + k * 5 + 3, none⟩) hjl).trans o3
      have q4 := (hB1.cell (p := ⟨jb, jo + k * 5 + 4, none⟩) hjl).trans o4
      have HO := hide hown1
      clear hown' hgrow hown hown1 hownd hBd hsd hB o0 o1 o2 o3 o4
      go_wp2_with fail
      go_region_held3 (fun w' => w'.cell? ⟨jb, jo + k * 5, none⟩ = some (.int .i64 t.kind) ∧ w'.cell? ⟨jb, jo + k * 5 + 1, none⟩ = some (.int .i64 t.at_) ∧ w'.cell? ⟨jb, jo + k * 5 + 2, none⟩ = some (.int .i64 t.work) ∧ w'.cell? ⟨jb, jo + k * 5 + 3, none⟩ = some (.int .i64 t.A) ∧ w'.cell? ⟨jb, jo + k * 5 + 4, none⟩ = some (.int .i64 t.B)) (go_keep)
        (first | (refine step_append_eq (by rfl) _ _ 48 (by rfl) 48 (by rfl) _ _ (by rfl) (by rfl) _ _ hrun ?_))
      all_goals go_wp2_with fail
      go_roundw
      case rel => exact ⟨k + 1, by omega, by go_num, unhide HO, hB1, hs1⟩
      case measure => simp [intOf]; omega
    · obtain rfl : k = l := by omega
      clear hkn hk
      have hT : js.take k = js := List.take_of_length_le (by simp [unhide HL])
      rw [hT] at hown
      have HO := hide hown
      clear hown hT
      go_wp2_with fail
      go_ret
      exact ⟨_, rfl, unhide HO, hB⟩
end Go.Proofs.Ytkgeapmafpeapaa
