/-
  The iterator over items.
-/
import Derived.Test.YtcopjhidijhlaaaSE
import Derived.Test.YtcopjhidijhlaaaCIter
namespace Go.Proofs.Ytcopjhidijhlaaa.Cl
open Go.RowKit
attribute [local go_sem] Oper.semAt_some

theorem sitems_any (a : Option Addr) (n cap : Nat) (W : World) : Calls Try.prog 23 #[.slice a n cap] W fun e W' => e = .returned (.func (.func 32) #[] #[Pt W.heap.size 0]) ∧ W' = W.alloc (.cells #[.slice a n cap] 22) := by
  go_enter Try.func23, Try.ntmps23
  go_wp2_with fail
  go_ret
  exact ⟨rfl, rfl⟩
theorem By.drop {W : World} {B g off : Nat} {l : List UInt8} (h : By W B (some ⟨g, off, none⟩) l) (p : Nat) : By W B (some ⟨g, off + p, none⟩) (l.drop p) := fun j c hj => by
  rw [List.getElem?_drop] at hj
  obtain ⟨b', o', e1, h2, h3⟩ := h (p + j) c hj
  simp at e1
  obtain ⟨rfl, rfl⟩ := e1
  exact ⟨g, off + p, rfl, h2, by rw [Nat.add_assoc]; exact h3⟩
set_option maxRecDepth 100000 in
set_option maxHeartbeats 2000000 in
theorem items_iter (l x n cap : Nat) (b : List UInt8) (a : Option Addr) (hn : n = b.length) (hc : n ≤ cap) (hm : cap ≤ maxLen) (W : World) (J : Nat → World → Prop) (Z : World → Prop) (hJ0 : J 0 W)
    (hX : ∀ p W', J p W' → W'.cell? ⟨x, 0, none⟩ = some (.slice a n cap) ∧ By W' W'.heap.size a b)
    (hK : ∀ p W' W'', J p W' → Below W'.heap.size W' W'' → J p W'')
    (hY : ∀ (p : Nat) W' d, p < n → J p W' → Dt W' W'.heap.size d (fone (b.drop p)).1.c.data → YieldAt Fence.wide (4 - 1) Try.prog l #[.agg ((fone (b.drop p)).1.cs d)] W' fun e W2 => (e = .returned (.bool true) ∧ J (p + (fone (b.drop p)).2) W2) ∨ (e = .returned (.bool false) ∧ Z W2)) :
    CallsIn Fence.wide 4 Try.prog 32 #[.func (.yield l) #[] #[], Pt x 0] W fun e W' => e = .returned (.tuple #[]) ∧ ((∃ p, n ≤ p ∧ J p W') ∨ Z W') := by
  have hro : Fence.wide.round = none := rfl
  have HY := hide hY
  have HX := hide hX
  have HK := hide hK
  have hcm : (cap : Int) ≤ 9223372036854775807 := by unfold maxLen at hm; omega
  have hnc : (n : Int) ≤ (cap : Int) := by omega
  have HM := hide hm
  have HN := hide hn
  clear hY hX hK hm hn
  refine callsIn_of_wp Try.func32 rfl trivial ?_ hro
  simp only [Try.ntmps32, List.size_toArray, List.length_cons, List.length_nil, Nat.reduceAdd, Nat.reduceSub, Array.replicate_succ, Array.replicate_zero, List.push_toArray, List.append_toArray, List.nil_append, List.cons_append]
  gi_wp2_with fail
  gi_loopw [3] (fun i wr => ∃ p : Nat, p ≤ n ∧ i = .int .i64 p ∧ J p wr) (fun i _ => n - (intOf i).toNat)
  case atStart => exact ⟨0, by omega, rfl, hJ0⟩
  case round =>
    clear hJ0
    obtain ⟨p, hp, rfl, hJ⟩ := hrel
    have x0 := (unhide HX p wr hJ).1
    by_cases hpn : p < n
    · have hby := (unhide HX p wr hJ).2
      have j1 : (p : Int) < (n : Int) := by omega
      have j0 : (0 : Int) ≤ (p : Int) := by omega
      have j2 : (p : Int) ≤ (n : Int) := by omega
      have j3 : (p : Int) ≤ (cap : Int) := by omega
      have j4 : ¬ cap - p = 0 := by omega
      obtain ⟨c, r, hcr⟩ : ∃ c r, b.drop p = c :: r := by
        cases h : b.drop p with
        | nil => have := congrArg List.length h; rw [List.length_drop, List.length_nil, ← unhide HN] at this; omega
        | cons c r => exact ⟨c, r, rfl⟩
      obtain ⟨g, off, ha⟩ : ∃ g off, a = some ⟨g, off, none⟩ := by
        obtain ⟨g, off, e, -⟩ := hby 0 (b[0]'(by have := unhide HN; omega)) (List.getElem?_eq_getElem _)
        exact ⟨g, off, e⟩
      subst ha
      have hbd := hby.drop p
      rw [hcr] at hbd
      have hln : n - p = (c :: r).length := by rw [← hcr, List.length_drop, ← unhide HN]
      have HF := hide (first_any c r (some ⟨g, off + p, none⟩) (n - p) (cap - p) hln (by omega) (by have := unhide HM; omega) wr hbd)
      have hle := fone_le (c :: r)
      rw [← hln] at hle
      have hpos := fone_pos c r
      have HYp := hide (fun W' d => unhide HY p W' d hpn)
      rw [hcr] at HYp
      have HJ := hide hJ
      obtain ⟨y, hy⟩ : ∃ y, fone (c :: r) = y := ⟨_, rfl⟩
      rw [hy] at HF HYp hle hpos
      replace hcr := hide hcr
      replace hy := hide hy
      clear hJ hby hbd hln
      gi_wp2_with fail
      refine ⟨trivial, (callsIn_wide.2 (unhide HF)).mono ?_⟩
      rintro e W2 ⟨⟨d, rfl, hd⟩, be2⟩
      obtain ⟨da, dc, rfl, -⟩ : ∃ da dc, d = .slice da y.1.c.data.length dc ∧ True := by obtain ⟨da, dc, h, -⟩ := hd; exact ⟨da, dc, h, trivial⟩
      have hj2 := unhide HK p wr W2 (unhide HJ) be2
      obtain ⟨W3, hW3, hs3, g3, hB3⟩ := alloc1 W2 (.cells Z12 29)
      obtain ⟨X1, X2, X3, X4, X5, X6, X7, X8, X9, X10, X11, X12, ⟨y1, y2, y3, y4, y5, y6, y7, y8, y9, y10, y11, y12⟩, ⟨s1, s2, s3, s4, s5, s6, s7, s8, s9, s10, s11, s12⟩, ⟨f1, f2, f3, f4, f5, f6, f7, f8, f9, f10, f11, f12⟩, gX, grX⟩ := store12 g3 (I y.1.kind) (I y.1.thread) (I y.1.n) (I y.1.c.op) (S y.1.c.path) (S y.1.c.dst) (I y.1.c.fd) (I y.1.c.fl) (I y.1.c.mo) (I y.1.c.n) (I y.1.c.m) (.slice da y.1.c.data.length dc)
      have be3 : Below W2.heap.size W2 X12 := hB3.trans (grX.below (Nat.le_refl _) (by omega))
      have hj3 := unhide HK p W2 X12 hj2 be3
      have HD3 : Dt X12 X12.heap.size (.slice da y.1.c.data.length dc) y.1.c.data := (hd.below be3).mono be3.size
      obtain ⟨e0, e1, e2, e3, e4, e5, e6, e7, e8, e9, e10, e11⟩ := cells12 (x := y.1) (d := .slice da y.1.c.data.length dc) gX
      obtain ⟨fn, tmps, assign, body, hyy, hR⟩ := unhide HYp X12 (.slice da y.1.c.data.length dc) hj3 HD3
      unfold It.cs at hyy
      clear HF be2 hj2 hs3 g3 hB3 be3 hj3 HD3 gX grX hd HJ
      unfold It.cs
      gi_wp2_with fail
      refine hR.mono ?_
      rintro e W4 (⟨rfl, hJ2⟩ | ⟨rfl, hS⟩)
      · have q1 : ((p : Int) + (y.2 : Nat)) ≤ 9223372036854775807 := by omega
        have q2 : (0 : Int) ≤ (y.2 : Int) := by omega
        gi_wp2_with fail
        go_roundw
        case rel => exact ⟨p + y.2, by omega, by go_num, hJ2⟩
        case measure => simp [intOf]; omega
      · gi_wp2_with fail
        refine bodyPost_ret (results_none rfl _ _ _) rfl ?_
        exact ⟨rfl, .inr hS⟩
    · have hpe : p = n := by omega
      subst hpe
      gi_wp2_with fail
      go_end0
      exact ⟨rfl, .inl ⟨p, Nat.le_refl _, hJ⟩⟩
end Go.Proofs.Ytcopjhidijhlaaa.Cl
