/-
  The iterator that told answers: those of the parts that say something.
-/
import Derived.Test.YtnkkfomekdipiaaDoorCPart
namespace Go.Proofs.YtnkkfomekdipiaaDoor.Cl
open Go.RowKit Go.Shelf
attribute [local go_sem] Oper.semAt_some

/-- A part: whether it says something, its word, the slice of what it says. -/
structure Pa where
  says : Bool
  word : List UInt8
  t : List UInt8
  a : Option Addr
  c : Nat
abbrev Pa.v (p : Pa) : Value := .slice p.a p.t.length p.c
abbrev Pa.row (p : Pa) : List Value := [.bool p.says, S p.word, p.v]
abbrev prow (ps : List Pa) : List Value := ps.flatMap Pa.row
theorem prow_get (ps : List Pa) (k : Nat) (p : Pa) (h : ps[k]? = some p) : (prow ps)[k * 3]? = some (.bool p.says) ∧ (prow ps)[k * 3 + 1]? = some (S p.word) ∧ (prow ps)[k * 3 + 2]? = some p.v := by
  induction ps generalizing k with
  | nil => simp at h
  | cons q ps ih =>
    cases k with
    | zero =>
      simp at h
      subst h
      simp [prow, Pa.row]
    | succ k =>
      obtain ⟨h1, h2, h3⟩ := ih k (by simpa using h)
      have e : (k + 1) * 3 = k * 3 + 3 := by omega
      simp only [e]
      have hq : ∀ j, (prow (q :: ps))[k * 3 + 3 + j]? = (prow ps)[k * 3 + j]? := by
        intro j
        show ([_, _, _] ++ prow ps)[k * 3 + 3 + j]? = _
        rw [List.getElem?_append_right (by simp; omega)]
        congr 1
        simp
        omega
      exact ⟨by simpa using (hq 0).trans h1, (hq 1).trans h2, (hq 2).trans h3⟩
set_option maxRecDepth 100000 in
set_option maxHeartbeats 1000000 in
theorem told_any (a : Option Addr) (n c : Nat) (p : Nat) (W : World) (hp : p = W.heap.size) : Calls Tryd.prog 32 #[.slice a n c] W fun e W' => e = .returned (.func (.func 50) #[] #[Pt p 0]) ∧ W' = W.alloc (.cells #[.slice a n c] 93) := by
  subst hp
  go_enter Tryd.func32, Tryd.ntmps32
  go_wp2_with fail
  go_ret
  exact ⟨rfl, rfl⟩
set_option maxRecDepth 100000 in
set_option maxHeartbeats 1000000 in
theorem told_iter (l x g : Nat) (ps : List Pa) (hn : ps.length ≤ 1000) (W : World) (J : Nat → World → Prop) (x0 : W.cell? ⟨x, 0, none⟩ = some (.slice (some ⟨g, 0, none⟩) ps.length ps.length))
    (hJ0 : J 0 W)
    (hJA : ∀ i W', J i W' → W'.heap[g]? = some (.cells (prow ps).toArray 71))
    (hJB : ∀ i W' W2, J i W' → Below W'.heap.size W' W2 → J i W2)
    (hS : ∀ i p W', ps[i]? = some p → p.says = false → J i W' → J (i + 1) W')
    (hY : ∀ (i : Nat) (p : Pa) W', ps[i]? = some p → p.says = true → J i W' → YieldAt Fence.wide (4 - 1) Tryd.prog l #[.agg #[.bool true, S p.word, p.v]] W' fun e W2 => e = .returned (.bool true) ∧ J (i + 1) W2) :
    CallsIn Fence.wide 4 Tryd.prog 50 #[.func (.yield l) #[] #[], Pt x 0] W fun e W' => e = .returned (.tuple #[]) ∧ J ps.length W' := by
  have hro : Fence.wide.round = none := rfl
  have HY := hide hY
  have HA := hide hJA
  have HB := hide hJB
  have HS := hide hS
  clear hY hJA hJB hS
  refine callsIn_of_wp Tryd.func50 rfl trivial ?_ hro
  simp only [Tryd.ntmps50, List.size_toArray, List.length_cons, List.length_nil, Nat.reduceAdd, Nat.reduceSub, Array.replicate_succ, Array.replicate_zero, List.push_toArray, List.append_toArray, List.nil_append, List.cons_append]
  gi_wp2_with fail
  clear x0
  gi_loopw [7] (fun i wr => ∃ k : Nat, k ≤ ps.length ∧ i = .int .i64 k ∧ J k wr) (fun i _ => ps.length - (intOf i).toNat)
  case atStart => exact ⟨0, by omega, rfl, hJ0⟩
  case round =>
    obtain ⟨k, hk, rfl, hJ⟩ := hrel
    by_cases hkn : k < ps.length
    · have hp := unhide HA k wr hJ
      have j1 : (k : Int) < (ps.length : Int) := by omega
      have j0 : (0 : Int) ≤ (k : Int) := by omega
      obtain ⟨⟨sy, wd, pt, pa, pc⟩, hpk⟩ : ∃ p, ps[k]? = some p := ⟨_, List.getElem?_eq_getElem hkn⟩
      obtain ⟨r0, r1, r2⟩ := prow_get ps k _ hpk
      have y0 : wr.cell? ⟨g, k * 3, none⟩ = some (.bool sy) := by rw [cell_of hp, List.getElem?_toArray]; exact r0
      have y1 : wr.cell? ⟨g, k * 3 + 1, none⟩ = some (S wd) := by rw [cell_of hp, List.getElem?_toArray]; exact r1
      have y2 : wr.cell? ⟨g, k * 3 + 2, none⟩ = some (.slice pa pt.length pc) := by rw [cell_of hp, List.getElem?_toArray]; exact r2
      obtain ⟨V, hV, hs, g0, hB⟩ := alloc1 wr (.cells P0 71)
      obtain ⟨X1, X2, X3, ⟨e1, e2, e3⟩, ⟨s1, s2, s3⟩, ⟨f1, f2, f3⟩, gX, grX⟩ := store3 g0 (.bool sy) (S wd) (.slice pa pt.length pc)
      have z0 : X3.cell? ⟨wr.heap.size, 0, none⟩ = some (.bool sy) := by rw [cell_of gX]; rfl
      have z1 : X3.cell? ⟨wr.heap.size, 1, none⟩ = some (S wd) := by rw [cell_of gX]; rfl
      have z2 : X3.cell? ⟨wr.heap.size, 2, none⟩ = some (.slice pa pt.length pc) := by rw [cell_of gX]; rfl
      have hJ3 := unhide HB k wr X3 hJ (hB.trans (grX.below (Nat.le_refl _) (by omega)))
      clear hJ hp r0 r1 r2 hB gX grX hs g0
      cases hp1 : sy with
      | true =>
        subst hp1
        obtain ⟨fn, tmps, assign, body, hyy, hR⟩ := unhide HY k _ X3 hpk rfl hJ3
        clear hpk hJ3
        gi_wp2_with fail
        refine hR.mono ?_
        rintro e W2 ⟨rfl, hJ2⟩
        gi_wp2_with fail
        go_roundw
        case rel => exact ⟨k + 1, by omega, by go_num, hJ2⟩
        case measure => simp [intOf]; omega
      | false =>
        subst hp1
        have hJ2 := unhide HS k _ X3 hpk rfl hJ3
        clear hpk hJ3
        gi_wp2_with fail
        refine ⟨(fun f hf => by cases hf), ?_⟩
        gi_wp2_with fail
        go_roundw
        case rel => exact ⟨k + 1, by omega, by go_num, hJ2⟩
        case measure => simp [intOf]; omega
    · obtain rfl : k = ps.length := by omega
      gi_wp2_with fail
      go_end0
      exact ⟨rfl, hJ⟩
end Go.Proofs.YtnkkfomekdipiaaDoor.Cl
