/-
  One node beside the root: held, parted, let loose.
-/
import Derived.Test.YtiedobpgfhmidaaTWrite
namespace Go.Proofs.Ytiedobpgfhmidaa
open Go.RowKit Go.Maps

abbrev tX : ByteArray := ⟨#[120]⟩
abbrev tT : ByteArray := ⟨#[116]⟩
/-- The node has a name, and is held j times. -/
structure R1 (T : Tr) (kind : Int) (j : Nat) : Prop where
  r : ∃ r, T.nd 1 = some r ∧ r.kind = 1 ∧ r.ins = [(tX, 2)]
  y : ∃ y, T.nd 2 = some y ∧ y.kind = kind ∧ y.names = 1 ∧ y.holds = j ∧ y.ins = []
  o : ∀ k, k ≠ 1 → k ≠ 2 → T.nd k = none
  md : T.made = 2 ∧ T.most = 3
/-- It has none. -/
structure R2 (T : Tr) (j : Nat) : Prop where
  r : ∃ r, T.nd 1 = some r
  y : 0 < j → ∃ y, T.nd 2 = some y ∧ y.names = 0 ∧ y.holds = j
  n : j = 0 → T.nd 2 = none
  o : ∀ k, k ≠ 1 → k ≠ 2 → T.nd k = none
  md : T.made = 2 ∧ T.most = 3
def txt (kind : Int) : ByteArray := if kind = 3 then tT else ⟨#[]⟩
theorem make_E {kind : Int} (h : kind = 1 ∨ kind = 2 ∨ kind = 3) : (Tr.new 3 8).makeE 1 tX kind (txt kind) = 0 := by
  rcases h with rfl | rfl | rfl <;> decide +kernel
theorem make_R1 {kind : Int} (h : kind = 1 ∨ kind = 2 ∨ kind = 3) : (Tr.new 3 8).makeN 1 tX kind (txt kind) = 2 ∧ R1 ((Tr.new 3 8).make 1 tX kind 0 0 0 (txt kind)) kind 0 := by
  have hE := make_E h
  have hd : (Tr.new 3 8).nd 1 = some ⟨1, 493, 0, 0, 1, 0, 1, [], 0, ⟨#[]⟩⟩ := rfl
  have hnd := Tr.make_nd (mode := 0) (uid := 0) (gid := 0) (Tr.new_wk 3 8 (by omega)) hE hd
  have hm : (((Tr.new 3 8).made : Nat) : Int) + 1 = 2 := rfl
  rw [hm] at hnd
  refine ⟨by rw [Tr.makeN, if_pos hE]; rfl, ⟨_, (hnd 1).trans ((if_neg (by decide)).trans (if_pos rfl)), rfl, rfl⟩, ⟨_, (hnd 2).trans (if_pos rfl), rfl, rfl, rfl, rfl⟩, fun k h1 h2 => ?_, ?_⟩
  · rw [hnd, if_neg h2, if_neg h1]
    simp [Tr.new, h1]
  · rw [Tr.make, if_pos hE]
    constructor <;> simp [Tr.give, Tr.add, Tr.new, Tr.set]
theorem R1.hold {T : Tr} {kind : Int} {j : Nat} (h : R1 T kind j) : T.holdE 2 = 0 ∧ R1 (T.hold 2) kind (j + 1) := by
  obtain ⟨y, h1, h2, h3, h4, h5⟩ := h.y
  obtain ⟨r, g1, g2, g3⟩ := h.r
  have e : T.hold 2 = T.set 2 (some { y with holds := y.holds + 1 }) := by simp [Tr.hold, h1]
  refine ⟨by simp [Tr.holdE, h1], ?_⟩
  rw [e]
  exact ⟨⟨r, by rw [Tr.set_other _ _ (by decide)]; exact g1, g2, g3⟩, ⟨_, Tr.set_same _ _ _, h2, h3, by simp only; omega, h5⟩, fun k k1 k2 => by rw [Tr.set_other _ _ k2]; exact h.o k k1 k2, h.md⟩
theorem R1.part {T : Tr} {kind : Int} {j : Nat} (h : R1 T kind j) : T.partE 1 tX = 0 ∧ R2 (T.part 1 tX) j := by
  obtain ⟨y, h1, h2, h3, h4, h5⟩ := h.y
  obtain ⟨r, g1, g2, g3⟩ := h.r
  have hg : getE r.ins tX = some 2 := by rw [g3]; decide +kernel
  have hE : T.partE 1 tX = 0 := by simp [Tr.partE, Tr.dir, g1, g2, hg, Tr.insOf, h1, h5]
  have hnd := Tr.take_nd g1 hg h1 (by decide)
  obtain ⟨m1, m2, _⟩ := Tr.take_rest g1 hg h1 (by decide)
  have e : T.part 1 tX = T.take 1 tX := by rw [Tr.part, if_pos hE]
  rw [e]
  refine ⟨hE, ⟨_, (hnd 1).trans ((if_neg (by decide)).trans (if_pos rfl))⟩, fun hj => ⟨_, (hnd 2).trans ((if_pos rfl).trans (if_pos (.inr (by omega)))), by simp [h3], by simp [h4]⟩, fun hj => by rw [hnd, if_pos rfl, if_neg (by omega)], fun k k1 k2 => by rw [hnd, if_neg k2, if_neg k1]; exact h.o k k1 k2, by rw [m1, m2]; exact h.md⟩
theorem R2.loose {T : Tr} {j : Nat} (h : R2 T j) : (0 < j → T.looseE 2 = 0) ∧ (j = 0 → T.looseE 2 = 1) ∧ R2 (T.loose 2) (j - 1) := by
  by_cases hj : j = 0
  · have h1 := h.n hj
    have e : T.loose 2 = T := by simp [Tr.loose, h1]
    rw [e]
    subst hj
    exact ⟨fun h' => by omega, fun _ => by simp [Tr.looseE, h1], h⟩
  · obtain ⟨y, h1, h2, h3⟩ := h.y (by omega)
    have hnd := Tr.loose_nd h1 (by omega)
    have hmd : (T.loose 2).made = T.made ∧ (T.loose 2).most = T.most := by
      simp only [Tr.loose, h1, if_neg (show ¬ y.holds = 0 by omega), Tr.leave, Tr.set_same]
      split <;> exact ⟨rfl, rfl⟩
    obtain ⟨r, g1⟩ := h.r
    refine ⟨fun _ => by simp [Tr.looseE, h1]; omega, fun h' => absurd h' hj, ⟨r, by rw [hnd, if_neg (by decide)]; exact g1⟩, fun hp => ⟨_, (hnd 2).trans ((if_pos rfl).trans (if_pos (.inr (by omega)))), h2, by simp only; omega⟩, fun hz => by rw [hnd, if_pos rfl, if_neg (by omega)], fun k k1 k2 => by rw [hnd, if_neg k2]; exact h.o k k1 k2, by rw [hmd.1, hmd.2]; exact h.md⟩
theorem R2.fin {T : Tr} {j : Nat} (h : R2 T j) : (T.nd 2).isSome = decide (0 < j) ∧ (0 < j → ∃ a b c d f, T.stat 2 = stV 2 a b c d 0 f) ∧ (j = 0 → T.stat 2 = stV 0 0 0 0 0 0 0) ∧ T.live = 1 + (if 0 < j then 1 else 0) := by
  have hl : T.live = 1 + (if 0 < j then 1 else 0) := by
    simp only [Tr.live, h.md.1]
    obtain ⟨r, g1⟩ := h.r
    have e0 := h.o 0 (by decide) (by decide)
    rw [cnt_succ, cnt_succ, cnt_succ]
    simp only [Int.natCast_zero, Int.natCast_one, e0, g1]
    by_cases hj : 0 < j
    · obtain ⟨y, h1, _⟩ := h.y hj
      simp [h1, hj, cnt]
    · have e2 : T.nd 2 = none := h.n (by omega)
      simp [e2, hj, cnt]
  by_cases hj : 0 < j
  · obtain ⟨y, h1, h2, h3⟩ := h.y hj
    refine ⟨by simp [h1, hj], fun _ => ?_, fun h' => by omega, hl⟩
    have e : T.links y = 0 := by rw [Tr.links, if_neg (by omega)]; exact h2
    exact ⟨_, _, _, _, _, by simp only [Tr.stat, h1, Tr.statV, e]; rfl⟩
  · have h1 := h.n (by omega)
    exact ⟨by simp [h1, hj], fun h' => absurd h' hj, fun _ => by simp only [Tr.stat, h1]; rfl, hl⟩
theorem R1.pool {T : Tr} {kind : Int} {j : Nat} (h : R1 T kind j) (s : S) : R1 { T with pool := s } kind j := ⟨h.r, h.y, h.o, h.md⟩
end Go.Proofs.Ytiedobpgfhmidaa
