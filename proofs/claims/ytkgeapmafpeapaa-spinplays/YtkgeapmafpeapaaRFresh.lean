/-
  The six blocks of the document's New, made in any order.
-/
import Derived.Test.YtkgeapmafpeapaaRReg
namespace Go.Proofs.Ytkgeapmafpeapaa
open Go.RowKit

def six (t : Array Value) (x1 x3 x5 x7 x9 x11 : Value) : Array Value := (((((t.setIfInBounds 67 x1).setIfInBounds 69 x3).setIfInBounds 71 x5).setIfInBounds 73 x7).setIfInBounds 75 x9).setIfInBounds 77 x11
theorem six_get {t : Array Value} {x1 x3 x5 x7 x9 x11 : Value} {j : Nat} (h1 : j ≠ 67) (h2 : j ≠ 69) (h3 : j ≠ 71) (h4 : j ≠ 73) (h5 : j ≠ 75) (h6 : j ≠ 77) : (six t x1 x3 x5 x7 x9 x11)[j]? = t[j]? := by
  simp [six, Ne.symm h1, Ne.symm h2, Ne.symm h3, Ne.symm h4, Ne.symm h5, Ne.symm h6]
theorem six_67 {t : Array Value} {x1 x3 x5 x7 x9 x11 : Value} (h : 80 ≤ t.size) : (six t x1 x3 x5 x7 x9 x11)[67]? = some x1 := by
  have : 67 < t.size := by omega
  simp [six, this]
theorem six_self (t : Array Value) : six t (t.getD 67 undef) (t.getD 69 undef) (t.getD 71 undef) (t.getD 73 undef) (t.getD 75 undef) (t.getD 77 undef) = t := by
  apply Array.ext_getElem?
  intro j
  simp only [six, Array.getElem?_setIfInBounds, Array.size_setIfInBounds, Array.getD_eq_getD_getElem?]
  by_cases h1 : 77 = j
  · subst h1; by_cases h : 77 < t.size <;> simp [h]
  by_cases h2 : 75 = j
  · subst h2; by_cases h : 75 < t.size <;> simp [h]
  by_cases h3 : 73 = j
  · subst h3; by_cases h : 73 < t.size <;> simp [h]
  by_cases h4 : 71 = j
  · subst h4; by_cases h : 71 < t.size <;> simp [h]
  by_cases h5 : 69 = j
  · subst h5; by_cases h : 69 < t.size <;> simp [h]
  by_cases h6 : 67 = j
  · subst h6; by_cases h : 67 < t.size <;> simp [h]
  simp [h1, h2, h3, h4, h5, h6]
theorem six_put67 (t : Array Value) (x1 x3 x5 x7 x9 x11 v : Value) : (⟨six t x1 x3 x5 x7 x9 x11, []⟩ : Act).put (some 67) v = ⟨six t v x3 x5 x7 x9 x11, []⟩ := by
  have e : (six t x1 x3 x5 x7 x9 x11).setIfInBounds 67 v = six t v x3 x5 x7 x9 x11 := by
    apply Array.ext_getElem?
    intro j
    simp only [six, Array.getElem?_setIfInBounds, Array.size_setIfInBounds]
    by_cases h : 67 = j
    · subst h; simp
    · simp [h]
  simp only [Act.put, e]
theorem six_put69 (t : Array Value) (x1 x3 x5 x7 x9 x11 v : Value) : (⟨six t x1 x3 x5 x7 x9 x11, []⟩ : Act).put (some 69) v = ⟨six t x1 v x5 x7 x9 x11, []⟩ := by
  have e : (six t x1 x3 x5 x7 x9 x11).setIfInBounds 69 v = six t x1 v x5 x7 x9 x11 := by
    apply Array.ext_getElem?
    intro j
    simp only [six, Array.getElem?_setIfInBounds, Array.size_setIfInBounds]
    by_cases h : 69 = j
    · subst h; simp
    · simp [h]
  simp only [Act.put, e]
theorem six_put71 (t : Array Value) (x1 x3 x5 x7 x9 x11 v : Value) : (⟨six t x1 x3 x5 x7 x9 x11, []⟩ : Act).put (some 71) v = ⟨six t x1 x3 v x7 x9 x11, []⟩ := by
  have e : (six t x1 x3 x5 x7 x9 x11).setIfInBounds 71 v = six t x1 x3 v x7 x9 x11 := by
    apply Array.ext_getElem?
    intro j
    simp only [six, Array.getElem?_setIfInBounds, Array.size_setIfInBounds]
    by_cases h : 71 = j
    · subst h; simp
    · simp [h]
  simp only [Act.put, e]
theorem six_put73 (t : Array Value) (x1 x3 x5 x7 x9 x11 v : Value) : (⟨six t x1 x3 x5 x7 x9 x11, []⟩ : Act).put (some 73) v = ⟨six t x1 x3 x5 v x9 x11, []⟩ := by
  have e : (six t x1 x3 x5 x7 x9 x11).setIfInBounds 73 v = six t x1 x3 x5 v x9 x11 := by
    apply Array.ext_getElem?
    intro j
    simp only [six, Array.getElem?_setIfInBounds, Array.size_setIfInBounds]
    by_cases h : 73 = j
    · subst h; simp
    · simp [h]
  simp only [Act.put, e]
theorem six_put75 (t : Array Value) (x1 x3 x5 x7 x9 x11 v : Value) : (⟨six t x1 x3 x5 x7 x9 x11, []⟩ : Act).put (some 75) v = ⟨six t x1 x3 x5 x7 v x11, []⟩ := by
  have e : (six t x1 x3 x5 x7 x9 x11).setIfInBounds 75 v = six t x1 x3 x5 x7 v x11 := by
    apply Array.ext_getElem?
    intro j
    simp only [six, Array.getElem?_setIfInBounds, Array.size_setIfInBounds]
    by_cases h : 75 = j
    · subst h; simp
    · simp [h]
  simp only [Act.put, e]
theorem six_put77 (t : Array Value) (x1 x3 x5 x7 x9 x11 v : Value) : (⟨six t x1 x3 x5 x7 x9 x11, []⟩ : Act).put (some 77) v = ⟨six t x1 x3 x5 x7 x9 v, []⟩ := by
  have e : (six t x1 x3 x5 x7 x9 x11).setIfInBounds 77 v = six t x1 x3 x5 x7 x9 v := by
    apply Array.ext_getElem?
    intro j
    simp only [six, Array.getElem?_setIfInBounds, Array.size_setIfInBounds]
    by_cases h : 77 = j
    · subst h; simp
    · simp [h]
  simp only [Act.put, e]

structure Zs (w : World) (hh k : Nat) (T : TypeId) (cs : Array Value) (x : Value) : Prop where
  ex : ∃ g, x = .slice (some ⟨g, 0, none⟩) k k ∧ hh ≤ g ∧ w.heap[g]? = some (.cells cs T)
abbrev zcs (k : Nat) : Array Value := ((List.replicate k (0 : Int)).map (Value.int .i64)).toArray
abbrev scs (k : Nat) : Array Value := (rowsOf St.row (List.replicate k St.zero)).toArray

structure Fresh (w0 : World) (hh k : Nat) (js : List Jb) (b1 b3 b5 b7 b9 b11 : Bool) (x1 x3 x5 x7 x9 x11 : Value) (w : World) : Prop where
  below : Below hh w0 w
  size : hh ≤ w.heap.size
  p1 : b1 = true → b3 = false → ∃ g, x1 = .slice (some ⟨g, 0, none⟩) 0 0 ∧ hh ≤ g ∧ w.heap[g]? = some (.cells #[] 82)
  p3 : b3 = true → ∃ jp cp, x3 = .slice jp k cp ∧ JobsAt w jp js ∧ ∀ a : Addr, jp = some a → hh ≤ a.block ∧ ∃ cur, w.heap[a.block]? = some (.cells cur 82)
  p5 : b5 = true → Zs w hh k 3 (zcs k) x5
  p7 : b7 = true → Zs w hh k 2 (zcs k) x7
  p9 : b9 = true → Zs w hh k 3 (zcs k) x9
  p11 : b11 = true → Zs w hh k 50 (scs k) x11
  ne : b5 = true → b9 = true → x5 ≠ x9

theorem Zs.keep {w w' : World} {hh k : Nat} {T : TypeId} {cs : Array Value} {x : Value} (h : Zs w hh k T cs x) (hB : Below w.heap.size w w') : Zs w' hh k T cs x := by
  obtain ⟨g, e, hg, hc⟩ := h.ex
  exact ⟨g, e, hg, (hB.block g (Array.getElem?_eq_some_iff.1 hc).1).trans hc⟩
theorem Zs.new (w : World) {hh k : Nat} {T : TypeId} {cs : Array Value} (h : hh ≤ w.heap.size) : Zs (w.alloc (.cells cs T)) hh k T cs (.slice (some ⟨w.heap.size, 0, none⟩) k k) := ⟨_, rfl, h, putAll _ _ rfl⟩
theorem Zs.ne {w : World} {hh k n m : Nat} {T : TypeId} {cs : Array Value} {x : Value} (h : Zs w hh k T cs x) : x ≠ .slice (some ⟨w.heap.size, 0, none⟩) n m := by
  obtain ⟨g, rfl, -, hc⟩ := h.ex
  have := (Array.getElem?_eq_some_iff.1 hc).1
  intro e
  cases e
  omega

section
variable {w0 w : World} {hh k : Nat} {js : List Jb} {b1 b3 b5 b7 b9 b11 : Bool} {x1 x3 x5 x7 x9 x11 : Value}
theorem Fresh.grown (h : Fresh w0 hh k js b1 b3 b5 b7 b9 b11 x1 x3 x5 x7 x9 x11 w) (o : Obj) : Fresh w0 hh k js b1 b3 b5 b7 b9 b11 x1 x3 x5 x7 x9 x11 (w.alloc o) := by
  have hB : Below w.heap.size w (w.alloc o) := (Below.refl _ _).alloc (Nat.le_refl _) _
  refine ⟨h.below.alloc h.size _, by have := h.size; simp; omega, fun e1 e3 => ?_, fun e => ?_, fun e => (h.p5 e).keep hB, fun e => (h.p7 e).keep hB, fun e => (h.p9 e).keep hB, fun e => (h.p11 e).keep hB, h.ne⟩
  · obtain ⟨g, e, hg, hc⟩ := h.p1 e1 e3
    exact ⟨g, e, hg, (hB.block g (Array.getElem?_eq_some_iff.1 hc).1).trans hc⟩
  · obtain ⟨jp, cp, e, hj, ha⟩ := h.p3 e
    refine ⟨jp, cp, e, hj.below hB (Nat.le_refl _), fun a e => ?_⟩
    obtain ⟨h1, cur, h2⟩ := ha a e
    exact ⟨h1, cur, (hB.block _ (Array.getElem?_eq_some_iff.1 h2).1).trans h2⟩
theorem Fresh.do1 (h : Fresh w0 hh k js false b3 b5 b7 b9 b11 x1 x3 x5 x7 x9 x11 w) : Fresh w0 hh k js true b3 b5 b7 b9 b11 (.slice (some ⟨w.heap.size, 0, none⟩) 0 0) x3 x5 x7 x9 x11 (w.alloc (.cells #[] 82)) := by
  have g := h.grown (.cells #[] 82)
  exact ⟨g.below, g.size, fun _ _ => ⟨_, rfl, h.size, putAll _ _ rfl⟩, g.p3, g.p5, g.p7, g.p9, g.p11, g.ne⟩
theorem Fresh.do5 (h : Fresh w0 hh k js b1 b3 false b7 b9 b11 x1 x3 x5 x7 x9 x11 w) : Fresh w0 hh k js b1 b3 true b7 b9 b11 x1 x3 (.slice (some ⟨w.heap.size, 0, none⟩) k k) x7 x9 x11 (w.alloc (.cells (zcs k) 3)) := by
  have g := h.grown (.cells (zcs k) 3)
  exact ⟨g.below, g.size, g.p1, g.p3, fun _ => Zs.new w h.size, g.p7, g.p9, g.p11, fun _ e => Ne.symm (h.p9 e).ne⟩
theorem Fresh.do7 (h : Fresh w0 hh k js b1 b3 b5 false b9 b11 x1 x3 x5 x7 x9 x11 w) : Fresh w0 hh k js b1 b3 b5 true b9 b11 x1 x3 x5 (.slice (some ⟨w.heap.size, 0, none⟩) k k) x9 x11 (w.alloc (.cells (zcs k) 2)) := by
  have g := h.grown (.cells (zcs k) 2)
  exact ⟨g.below, g.size, g.p1, g.p3, g.p5, fun _ => Zs.new w h.size, g.p9, g.p11, g.ne⟩
theorem Fresh.do9 (h : Fresh w0 hh k js b1 b3 b5 b7 false b11 x1 x3 x5 x7 x9 x11 w) : Fresh w0 hh k js b1 b3 b5 b7 true b11 x1 x3 x5 x7 (.slice (some ⟨w.heap.size, 0, none⟩) k k) x11 (w.alloc (.cells (zcs k) 3)) := by
  have g := h.grown (.cells (zcs k) 3)
  exact ⟨g.below, g.size, g.p1, g.p3, g.p5, g.p7, fun _ => Zs.new w h.size, g.p11, fun e _ => (h.p5 e).ne⟩
theorem Fresh.do11 (h : Fresh w0 hh k js b1 b3 b5 b7 b9 false x1 x3 x5 x7 x9 x11 w) : Fresh w0 hh k js b1 b3 b5 b7 b9 true x1 x3 x5 x7 x9 (.slice (some ⟨w.heap.size, 0, none⟩) k k) (w.alloc (.cells (scs k) 50)) := by
  have g := h.grown (.cells (scs k) 50)
  exact ⟨g.below, g.size, g.p1, g.p3, g.p5, g.p7, g.p9, fun _ => Zs.new w h.size, g.ne⟩
/-- The append of the jobs onto the empty slice. -/
theorem Fresh.do3 {pa : Option Addr} {cap : Nat} (h : Fresh w0 hh k js true false b5 b7 b9 b11 x1 x3 x5 x7 x9 x11 w) (hJ : JobsAt w pa js) (hl : js.length = k) (k8 : k ≤ 8) :
    ∃ v w', (Builtin.append_ #[48, 48] 48 #[x1, .slice pa k cap]).run Try.prog w = .ok v w' ∧ Fresh w0 hh k js true true b5 b7 b9 b11 x1 v x5 x7 x9 x11 w' := by
  obtain ⟨g, rfl, hg, hc⟩ := h.p1 rfl rfl
  have hs := h.size
  obtain ⟨i0, hi, hz0, hz1, hz2⟩ := info_parts info82
  by_cases hk : k = 0
  · subst hk
    have e0 : js = [] := List.length_eq_zero_iff.1 hl
    obtain ⟨w', hr, rfl⟩ := run_append0 w g pa cap
    refine ⟨_, _, hr, h.below, h.size, fun _ e => Bool.noConfusion e, fun _ => ⟨_, _, rfl, ?_, ?_⟩, h.p5, h.p7, h.p9, h.p11, h.ne⟩
    · subst e0; intro k j hj; simp at hj
    · intro a e; cases e; exact ⟨hg, _, hc⟩
  · obtain ⟨jb, jo, rfl, -⟩ := hJ 0 js[0] (List.getElem?_eq_getElem (by omega))
    have hown : w.ownsRow hh 82 5 (.slice (some ⟨g, 0, none⟩) 0 0) 0 [] := ⟨rfl, .inr ⟨g, 0, #[], rfl, hg, hc, Nat.le_refl _, by unfold maxLen; omega, rfl, rfl⟩⟩
    have hlen : (rowsOf Jb.row js).length = k * 5 := by rw [← hl]; exact (rowsOf_length Jb.row 5 Jb.row_length js).trans (Nat.mul_comm _ _)
    have hcells : ∀ j u, (rowsOf Jb.row js)[j]? = some u → w.cell? ((⟨jb, jo, none⟩ : Addr).add j) = some u := by
      intro j u hj
      have hjl : j < k * 5 := by rw [← hlen]; exact (List.getElem?_eq_some_iff.1 hj).1
      have ej : j = 5 * (j / 5) + j % 5 := by omega
      have hq : j / 5 < js.length := by omega
      have e := rowsOf_get Jb.row 5 Jb.row_length js (j / 5) (j % 5) js[j / 5] (List.getElem?_eq_getElem hq) (by omega)
      rw [← ej, hj] at e
      obtain ⟨jb', jo', e', -, c0, c1, c2, c3, c4⟩ := hJ (j / 5) js[j / 5] (List.getElem?_eq_getElem hq)
      simp only [Option.some.injEq, Addr.mk.injEq] at e'
      obtain ⟨rfl, rfl, -⟩ := e'
      have ea : (⟨jb, jo, none⟩ : Addr).add j = ⟨jb, jo + j / 5 * 5 + j % 5, none⟩ := by
        have e2 : jo + j = jo + j / 5 * 5 + j % 5 := by omega
        rw [← e2]
        unfold Addr.add
        split
        · rename_i h0
          have e3 : jo + j = jo := by omega
          rw [e3]
        · rfl
      rw [ea]
      have hm : j % 5 < 5 := by omega
      generalize j % 5 = m at *
      match m, hm with
      | 0, _ => exact c0.trans e.symm
      | 1, _ => exact c1.trans e.symm
      | 2, _ => exact c2.trans e.symm
      | 3, _ => exact c3.trans e.symm
      | 4, _ => exact c4.trans e.symm
    have hone : ∀ u ∈ rowsOf Jb.row js, u.oneCell' = true := by
      intro u hu
      simp only [rowsOf, List.mem_flatMap] at hu
      obtain ⟨j, -, hu⟩ := hu
      exact jb_one j u hu
    obtain ⟨v', w', hrun, hown', hgr, -, hblk⟩ := run_append_own_at (P := Try.prog) w hh 48 48 82 i0 _ 5 40 Try.underlying48 hi hz0 hz1 hz2 rfl (by decide) _ 0 [] hown ⟨jb, jo, none⟩ k cap _ hlen hcells hone (by unfold maxLen; omega) (by omega) hs
    have keep : ∀ {q : Nat} {cs : Array Value} {T : TypeId}, T ≠ 82 → w.heap[q]? = some (.cells cs T) → w'.heap[q]? = some (.cells cs T) := by
      intro q cs T hT hq
      refine (hgr.block q (Array.getElem?_eq_some_iff.1 hq).1 ?_).trans hq
      intro e
      simp [Value.ownBlock] at e
      subst e
      rw [hc] at hq
      simp at hq
      exact hT hq.2.symm
    have kz : ∀ {T : TypeId} {cs : Array Value} {x : Value}, T ≠ 82 → Zs w hh k T cs x → Zs w' hh k T cs x := by
      intro T cs x hT hz
      obtain ⟨q, e, hq, hcq⟩ := hz.ex
      exact ⟨q, e, hq, keep hT hcq⟩
    refine ⟨v', w', hrun, ⟨hgr.os.trans h.below.os, hgr.tape.trans h.below.tape, hgr.output.trans h.below.output, Nat.le_trans h.below.size hgr.size, fun q hq => (hgr.block q (by omega) ?_).trans (h.below.block q hq)⟩, Nat.le_trans hs hgr.size, fun _ e => Bool.noConfusion e, fun _ => ?_,
      fun e => kz (by decide) (h.p5 e), fun e => kz (by decide) (h.p7 e), fun e => kz (by decide) (h.p9 e), fun e => kz (by decide) (h.p11 e), h.ne⟩
    · intro e
      simp [Value.ownBlock] at e
      omega
    · simp only [Nat.zero_add, List.nil_append] at hown'
      rcases hown'.2 with ⟨-, e⟩ | ⟨q, cp, cur, rfl, hq, hcq, -, -, -, htk⟩
      · omega
      · refine ⟨_, _, rfl, JobsAt.of_rows hcq ?_, fun a e => ?_⟩
        · intro i u hu
          rw [← htk] at hu
          have hi' : i < k * 5 := by
            have := (List.getElem?_eq_some_iff.1 hu).1
            simp at this; omega
          rw [List.getElem?_take_of_lt hi'] at hu
          simpa using hu
        · cases e; exact ⟨hq, _, hcq⟩
end
end Go.Proofs.Ytkgeapmafpeapaa
