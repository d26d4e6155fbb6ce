/-
  Two paths with a slash between: what is read; what the law's own row holds.
-/
import Derived.Test.YtnhddendkolfeaaApp
namespace Go.Proofs.Ytnhddendkolfeaa
open Go.RowKit

theorem join_err {a b : List UInt8} (ha : err a = 0) (hb : err b = 0) (la : a.length ≤ 1500) (lb : b.length ≤ 1500) : err (a ++ 47 :: b) = 0 := by
  obtain ⟨a0, a1, a2, a3⟩ := err_ok ha
  obtain ⟨b0, b1, b2, b3⟩ := err_ok hb
  refine err_of (by simp) (by simp; omega) ?_ ?_
  · intro h
    rcases List.mem_append.1 h with h | h
    · exact a2 h
    · rcases List.mem_cons.1 h with h | h
      · exact absurd h (by decide)
      · exact b2 h
  · rw [parts_app]
    intro p hp
    rcases List.mem_append.1 hp with h | h
    · exact a3 p h
    · exact b3 p h
theorem join_ps {a b : List UInt8} (ha : err a = 0) (hb : err b = 0) (la : a.length ≤ 1500) (lb : b.length ≤ 1500) : ps (a ++ 47 :: b) = ps a ++ ps b := by
  unfold ps; rw [join_err ha hb la lb, ha, hb, parts_app]; simp
theorem join_rt {a b : List UInt8} (ha : err a = 0) (hb : err b = 0) (la : a.length ≤ 1500) (lb : b.length ≤ 1500) : rt (a ++ 47 :: b) = rt a := by
  obtain ⟨a0, _⟩ := err_ok ha
  unfold rt; rw [join_err ha hb la lb, ha]
  cases a with
  | nil => exact absurd rfl a0
  | cons c r => rw [List.cons_append, prefix_cons, prefix_cons]
theorem join_sl {a b : List UInt8} (ha : err a = 0) (hb : err b = 0) (la : a.length ≤ 1500) (lb : b.length ≤ 1500) : sl (a ++ 47 :: b) = sl b := by
  obtain ⟨b0, _⟩ := err_ok hb
  unfold sl; rw [join_err ha hb la lb, hb]
  have h1 := suffix_cat (a ++ [47]) b0
  rw [List.append_assoc] at h1
  exact congrArg _ h1
theorem PB.drew {W : World} {b : Nat} {r s : Bool} {a : Option Addr} {n cap : Nat} {q : List (List UInt8)} (P : PB W b r s a n cap q) : PB W.drew b r s a n cap q := P.below (below_drew (Below.refl _ W))
/-- Two rows, one behind the other, in a row of their own. -/
theorem join_run {X : World} {a5 a7 : Option Addr} {n5 n7 c5 c7 : Nat} {q5 q7 : List (List UInt8)} (R5 : RowO X a5 q5) (h5 : q5.length = n5) (R7 : RowO X a7 q7) (h7 : q7.length = n7) (hs : n5 + n7 ≤ 100000) :
    ∃ Y W1 W2 g1 c1 g2 c2, X.alloc (.cells #[] 9) = Y ∧ (Builtin.append_ #[22, 22] 22 #[.slice (some ⟨X.heap.size, 0, none⟩) 0 0, .slice a5 n5 c5]).run Try.prog Y = .ok (.slice (some ⟨g1, 0, none⟩) n5 c1) W1 ∧
      (Builtin.append_ #[22, 22] 22 #[.slice (some ⟨g1, 0, none⟩) n5 c1, .slice a7 n7 c7]).run Try.prog W1 = .ok (.slice (some ⟨g2, 0, none⟩) (n5 + n7) c2) W2 ∧ RowO W2 (some ⟨g2, 0, none⟩) (q5 ++ q7) ∧ Below X.heap.size X Y ∧ Below X.heap.size X W1 ∧ Below X.heap.size X W2 := by
  obtain ⟨Y, hY, B0, O0⟩ := row0 (W := X)
  have s0 := B0.size
  obtain ⟨g1, c1, W1, r1, O1, G1⟩ := append_row (c := c5) O0 (R5.below B0) h5 (by omega) s0
  rw [Nat.zero_add] at r1 O1
  have B1 : Below X.heap.size X W1 := below_grown B0 O0 G1 s0
  have s1 := B1.size
  obtain ⟨g2, c2, W2, r2, O2, G2⟩ := append_row (c := c7) O1 (R7.below B1) h7 (by omega) s1
  have B2 : Below X.heap.size X W2 := below_grown B1 O1 G2 s1
  refine ⟨Y, W1, W2, g1, c1, g2, c2, hY, r1, r2, ?_, B0, B1, B2⟩
  rw [List.nil_append] at O2
  have e : strs q5 ++ strs q7 = strs (q5 ++ q7) := by simp [strs]
  rw [e] at O2
  exact RowO.of_own O2
/-- The run of an append, as a thing that nothing unfolds. -/
structure AppRun (t ty : TypeId) (vs vx : Value) (w : World) (v' : Value) (w' : World) : Prop where
  run : (Builtin.append_ #[t, t] ty #[vs, vx]).run Try.prog w = .ok v' w'
/-- An append whose run is known, at a step of a region that draws: where it is guarded, the guard holds. -/
theorem step_append_g {w : World} {ops : Array Oper} {o : Oper} {a : Act} {K : Act → World → Prop} {Q : Exit → Act → World → Prop} {E : Prop} {t ty : TypeId} {vs vx v' : Value} {w' : World} (hrun : AppRun t ty vs vx w v' w') (s x : Operand)
    (ho : o.op = .call { callee := .builtin .append, args := #[s, x], argTypes := #[t, t] }) (hty : o.type = ty) (hw : Region.wanted o (yielded ops a.tmps) = true) (hs : a.eval s = vs) (hx : a.eval x = vx)
    (h : K (a.put o.dst v') w') :
    if Region.wanted o (yielded ops a.tmps) = true then Oper.wp Try.prog o a w K Q else E := by
  rw [if_pos hw]
  unfold Oper.wp execOp
  simp only [ho, resolve, invoke, builtin, Sem.run_bind, Sem.run_pure, Result.andThen_ok, List.map_toArray, List.map_cons, List.map_nil, hs, hx, hty, hrun.run]
  exact h
end Go.Proofs.Ytnhddendkolfeaa
