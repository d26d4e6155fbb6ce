/-
  Both sides of SpinPlays: one step of each, and that neither touches the other.
-/
import Derived.Test.YtkgeapmafpeapaaRStep
import Derived.Test.YtkgeapmafpeapaaRNew
import Derived.Test.YtkgeapmafpeapaaRPick
namespace Go.Proofs.Ytkgeapmafpeapaa
open Go.RowKit

def stepI (ms : List Mach) (ws : List Int) (a : Int) : St × Int × List Mach × List Int × Int :=
  if a < 0 then (St.zero, 1, ms, ws, 0) else
  match ms[a.toNat]? with
  | none => (St.zero, 1, ms, ws, 0)
  | some M => if M.done = true then (St.zero, 16, ms, ws, 0) else ((M.step ws).1.st, 0, ms.set a.toNat (M.step ws).1, (M.step ws).2, 1)

theorem step_I (r b c q n : Nat) (ws : List Int) (st a : Int) (ms : List Mach) (w : World) (hR : Run w r b c q n ws st ms) (hG : Good n st ms) (s0 : 0 ≤ st) (s1 : st ≤ 1000000) :
    Calls Try.prog 11 #[.pointer (some ⟨r, 0, none⟩), .int .i64 a] w fun e w' => e = .returned (.tuple #[(stepI ms ws a).1.told, .int .i64 (stepI ms ws a).2.1]) ∧
      Run w' r b c q n (stepI ms ws a).2.2.2.1 (st + (stepI ms ws a).2.2.2.2) (stepI ms ws a).2.2.1 ∧ Good n (st + (stepI ms ws a).2.2.2.2) (stepI ms ws a).2.2.1 ∧ Frq b c q w w' := by
  by_cases ha : a < 0
  · refine (step_neg r a w ha).mono ?_
    rintro e w' ⟨rfl, hB⟩
    simp only [stepI, ha, if_true, Int.add_zero]
    exact ⟨rfl, hR.below hB, hG, .of_below hB⟩
  · obtain ⟨j, rfl⟩ := Int.eq_ofNat_of_zero_le (by omega : 0 ≤ a)
    cases hj : ms[j]? with
    | none =>
      have hl : ms.length ≤ j := by rw [List.getElem?_eq_none_iff] at hj; exact hj
      refine (step_past r b c q n ws st j ms w hR (by omega)).mono ?_
      rintro e w' ⟨rfl, hB⟩
      simp only [stepI, ha, if_false, Int.toNat_natCast, hj, Int.add_zero]
      exact ⟨rfl, hR.below hB, hG, .of_below hB⟩
    | some M =>
      cases hd : M.done with
      | true =>
        refine (step_done r b c q n j ws st ms M w hR hj hd).mono ?_
        rintro e w' ⟨rfl, hB⟩
        simp only [stepI, ha, if_false, Int.toNat_natCast, hj, hd, if_true, Int.add_zero]
        exact ⟨rfl, hR.below hB, hG, .of_below hB⟩
      | false =>
        obtain ⟨h1, h2⟩ := hG j M hj
        refine (step_yes r b c q n j ws st ms M w hR hj hd s0 s1 h1 (by omega)).mono ?_
        rintro e w' ⟨rfl, hR', hF⟩
        have hg := hG.stepAt ws j
        rw [stepAt_open hj hd] at hg
        simp only [stepI, ha, if_false, Int.toNat_natCast, hj, hd, Bool.false_eq_true]
        exact ⟨rfl, hR', hg, hF⟩

def Sims (ms : List Mach) (xs : List RJ) : Prop := ∀ (i : Nat) (M : Mach) (x : RJ), ms[i]? = some M → xs[i]? = some x → Sim i M x
theorem Sims.set {ms : List Mach} {xs : List RJ} (h : Sims ms xs) {k : Nat} {M : Mach} {x : RJ} (hs : Sim k M x) : Sims (ms.set k M) (xs.set k x) := by
  intro i N y hN hy
  by_cases e : k = i
  · subst e
    rw [List.getElem?_set] at hN hy
    simp at hN hy
    rw [← hN.2, ← hy.2]
    exact hs
  · rw [List.getElem?_set_ne e] at hN hy
    exact h i N y hN hy
theorem Sims.fresh {n : Nat} {js : List Jb} (hf : ∀ (k : Nat) (j : Jb), js[k]? = some j → j.fit n) : Sims (machs js) (js.map RJ.fresh) := by
  intro i M x hM hx
  simp only [machs, List.getElem?_mapIdx, List.getElem?_map, Option.map_eq_some_iff] at hM hx
  obtain ⟨j, hj, rfl⟩ := hM
  obtain ⟨j', hj', rfl⟩ := hx
  rw [hj] at hj'
  cases hj'
  have h0 := (hf i j hj).2.2.1
  exact ⟨rfl, (Int.toNat_of_nonneg h0).symm, rfl, rfl, rfl, rfl, rfl, rfl, fun _ => ⟨rfl, rfl, rfl, rfl⟩, fun _ => ⟨fun _ => ⟨rfl, rfl⟩, fun _ => ⟨rfl, rfl⟩⟩, fun _ _ => .inl ⟨rfl, rfl⟩, fun _ _ => .inl ⟨rfl, rfl⟩, fun _ _ => .inl ⟨rfl, rfl⟩⟩
theorem Sim.shown {i : Nat} {M : Mach} {x : RJ} (h : Sim i M x) : x.st.shown = M.st := by
  have hd := h.dn
  have ht := h.tr
  unfold St.shown Mach.st
  by_cases k3 : M.kind = 3
  · obtain ⟨h1, h2⟩ := h.rd k3
    cases hM : M.done with
    | true =>
      obtain ⟨e1, e2⟩ := h1 hM
      rw [hd, hM]
      simp only [if_true]
      cases hx : x.st
      simp_all
    | false =>
      obtain ⟨e1, e2⟩ := h2 hM
      rw [hd, hM]
      simp [e1, e2, ht]
  · obtain ⟨e1, e2, e3, e4⟩ := h.nr k3
    cases hM : M.done with
    | true =>
      rw [hd, hM]
      simp only [if_true]
      cases hx : x.st
      simp_all
    | false =>
      rw [hd, hM]
      simp [e3, e4, ht]

theorem rstep_I (rr b c aa ca la sa n cap : Nat) (jp : Option Addr) (ws : List Int) (st a : Int) (xs : List RJ) (ms : List Mach) (w : World) (h : RSys w rr b c aa ca la sa n jp cap ws st xs) (hl : xs.length = ms.length) (hS : Sims ms xs) (hG : Good n st ms) (s0 : 0 ≤ st) (s1 : st ≤ 1000000) :
    Calls Try.prog 20 #[.pointer (some ⟨rr, 0, none⟩), .int .i64 a] w fun e w' => ∃ (y : St) (xs' : List RJ), e = .returned (.tuple #[y.told, .int .i64 (stepI ms ws a).2.1]) ∧ y.shown = (stepI ms ws a).1 ∧
      RSys w' rr b c aa ca la sa n jp cap (stepI ms ws a).2.2.2.1 (st + (stepI ms ws a).2.2.2.2) xs' ∧ xs'.length = (stepI ms ws a).2.2.1.length ∧ Sims (stepI ms ws a).2.2.1 xs' ∧ FrR b c aa ca la sa w w' := by
  have z : St.zero.shown = St.zero := rfl
  by_cases ha : a < 0
  · refine (rstep_neg rr a w ha).mono ?_
    rintro e w' ⟨rfl, hB⟩
    simp only [stepI, ha, if_true, Int.add_zero]
    exact ⟨St.zero, xs, rfl, z, h.below hB, hl, hS, .of_below hB⟩
  · obtain ⟨j, rfl⟩ := Int.eq_ofNat_of_zero_le (by omega : 0 ≤ a)
    cases hj : ms[j]? with
    | none =>
      have hle : ms.length ≤ j := by rw [List.getElem?_eq_none_iff] at hj; exact hj
      refine (rstep_past rr b c aa ca la sa n cap jp ws st j xs w h (by omega)).mono ?_
      rintro e w' ⟨rfl, hB⟩
      simp only [stepI, ha, if_false, Int.toNat_natCast, hj, Int.add_zero]
      exact ⟨St.zero, xs, rfl, z, h.below hB, hl, hS, .of_below hB⟩
    | some M =>
      have hjl : j < xs.length := by rw [hl]; exact (List.getElem?_eq_some_iff.1 hj).1
      have hx : xs[j]? = some xs[j] := List.getElem?_eq_getElem hjl
      have S := hS j M _ hj hx
      cases hd : M.done with
      | true =>
        refine (rstep_done rr b c aa ca la sa n cap j jp ws st xs _ w h hx (by rw [S.dn, hd])).mono ?_
        rintro e w' ⟨rfl, hB⟩
        simp only [stepI, ha, if_false, Int.toNat_natCast, hj, hd, if_true, Int.add_zero]
        exact ⟨St.zero, xs, rfl, z, h.below hB, hl, hS, .of_below hB⟩
      | false =>
        obtain ⟨h1, h2⟩ := hG j M hj
        refine (rstep_yes rr b c aa ca la sa n cap j jp ws st xs _ M w h hx S h1 hd s0 s1 (by omega)).mono ?_
        rintro e w' ⟨x', rfl, S', hR', hF⟩
        simp only [stepI, ha, if_false, Int.toNat_natCast, hj, hd, Bool.false_eq_true]
        exact ⟨x'.st, _, rfl, S'.shown, hR', by simp [hl], hS.set S', hF⟩

theorem stepI_d (ms : List Mach) (ws : List Int) (a : Int) : 0 ≤ (stepI ms ws a).2.2.2.2 ∧ (stepI ms ws a).2.2.2.2 ≤ 1 := by
  unfold stepI
  split
  · simp
  · split
    · simp
    · split <;> simp

structure Sep (hh m1 m2 m3 r b c q rr rb rc aa ca la sa : Nat) (jp : Option Addr) : Prop where
  h : hh ≤ b ∧ hh ≤ c ∧ b < m1 ∧ c < m1 ∧ hh ≤ m1 ∧ m1 ≤ rb ∧ m1 ≤ rc ∧ rb < m2 ∧ rc < m2 ∧ m1 ≤ m2 ∧ m2 ≤ r ∧ m2 ≤ q ∧ r < m3 ∧ q < m3 ∧ m2 ≤ m3 ∧ m3 ≤ rr ∧ m3 ≤ aa ∧ m3 ≤ ca ∧ m3 ≤ la ∧ m3 ≤ sa
  j : ∀ a : Addr, jp = some a → m3 ≤ a.block

section
variable {hh m1 m2 m3 r b c q rr rb rc aa ca la sa n cap : Nat} {jp : Option Addr} {ws ws' : List Int} {st st' : Int} {ms : List Mach} {xs : List RJ} {W W' : World}
theorem Sep.sys (S : Sep hh m1 m2 m3 r b c q rr rb rc aa ca la sa jp) (h : RSys W rr rb rc aa ca la sa n jp cap ws st xs) (g : Frq b c q W W') : RSys W' rr rb rc aa ca la sa n jp cap ws st xs := by
  have lt : ∀ {k : Nat} {o : Obj}, W.heap[k]? = some o → k < W.heap.size := fun e => (Array.getElem?_eq_some_iff.1 e).1
  obtain ⟨k, a, o, v, d, hm⟩ := h.mem
  obtain ⟨z1, z2, z3, z4, z5, z6, z7, z8, z9, z10, z11, z12, z13, z14, z15, z16, z17, z18, z19, z20⟩ := S.h
  exact ⟨⟨k, a, o, v, d, hm.of (g.block _ hm.blt (by omega) (by omega) (by omega)) (g.block _ hm.clt (by omega) (by omega) (by omega))⟩, (g.block _ (lt h.hr) (by omega) (by omega) (by omega)).trans h.hr,
    h.hj.keep g.size (fun a ha hl => by have := S.j a ha; exact g.block _ hl (by omega) (by omega) (by omega)), (g.block _ (lt h.ha) (by omega) (by omega) (by omega)).trans h.ha, (g.block _ (lt h.hc) (by omega) (by omega) (by omega)).trans h.hc,
    (g.block _ (lt h.hl) (by omega) (by omega) (by omega)).trans h.hl, (g.block _ (lt h.hs) (by omega) (by omega) (by omega)).trans h.hs, h.hp, h.nr, h.na, h.nc, h.nl, h.ns, h.l8⟩
theorem Sep.run (S : Sep hh m1 m2 m3 r b c q rr rb rc aa ca la sa jp) (h : Run W r b c q n ws st ms) (g : FrR rb rc aa ca la sa W W') : Run W' r b c q n ws st ms := by
  obtain ⟨z1, z2, z3, z4, z5, z6, z7, z8, z9, z10, z11, z12, z13, z14, z15, z16, z17, z18, z19, z20⟩ := S.h
  exact ⟨h.sys.of (g.block _ h.sys.blt (by omega) (by omega) (by omega) (by omega) (by omega) (by omega)) (g.block _ h.sys.clt (by omega) (by omega) (by omega) (by omega) (by omega) (by omega)) (g.block _ h.sys.qlt (by omega) (by omega) (by omega) (by omega) (by omega) (by omega)),
    (g.block _ h.rlt (by omega) (by omega) (by omega) (by omega) (by omega) (by omega)).trans h.hr, h.rb, h.rc, h.rq, h.l8⟩
theorem Sep.below1 {w : World} (S : Sep hh m1 m2 m3 r b c q rr rb rc aa ca la sa jp) (hB : Below hh w W) (hs : hh ≤ W.heap.size) (g : Frq b c q W W') : Below hh w W' := by
  obtain ⟨z1, z2, z3, z4, z5, z6, z7, z8, z9, z10, z11, z12, z13, z14, z15, z16, z17, z18, z19, z20⟩ := S.h
  exact g.belowAt hB (by omega) (by omega) (by omega) hs
theorem Sep.below2 {w : World} (S : Sep hh m1 m2 m3 r b c q rr rb rc aa ca la sa jp) (hB : Below hh w W) (hs : hh ≤ W.heap.size) (g : FrR rb rc aa ca la sa W W') : Below hh w W' := by
  obtain ⟨z1, z2, z3, z4, z5, z6, z7, z8, z9, z10, z11, z12, z13, z14, z15, z16, z17, z18, z19, z20⟩ := S.h
  exact ⟨g.os.trans hB.os, g.tape.trans hB.tape, g.output.trans hB.output, Nat.le_trans hB.size g.size, fun k hk => (g.block k (by omega) (by omega) (by omega) (by omega) (by omega) (by omega) (by omega)).trans (hB.block k hk)⟩
end

/-- The new run of the program, whatever the jobs are. -/
def SNew (w : World) (b c n l : Nat) (ws : List Int) (st : Int) (js : List Jb) (e : Ending) (w' : World) : Prop :=
  Below w.heap.size w w' ∧ (((∃ (k : Nat) (j : Jb), js[k]? = some j ∧ ¬ j.fit n) ∧ e = .returned (.tuple #[.pointer none, .int .i64 1])) ∨
    ((∀ (k : Nat) (j : Jb), js[k]? = some j → j.fit n) ∧ 8 < l ∧ e = .returned (.tuple #[.pointer none, .int .i64 4])) ∨
    ((∀ (k : Nat) (j : Jb), js[k]? = some j → j.fit n) ∧ l ≤ 8 ∧ ∃ r q, e = .returned (.tuple #[.pointer (some ⟨r, 0, none⟩), .int .i64 0]) ∧ w.heap.size ≤ r ∧ w.heap.size ≤ q ∧ Run w' r b c q n ws st (machs js)))
theorem snew (b c n l cap : Nat) (ws : List Int) (st kk ak ok vk : Int) (dk : Bool) (js : List Jb) (pa : Option Addr) (w : World) (hM : Mem w b c n ws st kk ak ok vk dk) (hJ : JobsAt w pa js) (hl : js.length = l) (l10 : l ≤ 10) :
    Calls Try.prog 9 #[.pointer (some ⟨b, 0, none⟩), .slice pa l cap] w (SNew w b c n l ws st js) := by
  subst hl
  by_cases hb : ∃ (k : Nat) (j : Jb), js[k]? = some j ∧ ¬ j.fit n
  · have hb' := hb
    obtain ⟨k, j, hj, hf⟩ := hb
    refine (new_bad b c n k ws st kk ak ok vk dk js pa cap w hM hJ (by omega) j hj hf).mono ?_
    rintro e w' ⟨rfl, hB⟩
    exact ⟨hB, .inl ⟨hb', rfl⟩⟩
  · have hf : ∀ (k : Nat) (j : Jb), js[k]? = some j → j.fit n := fun k j hj => Classical.byContradiction fun h => hb ⟨k, j, hj, h⟩
    by_cases h8 : js.length ≤ 8
    · refine (new_good b c n ws st kk ak ok vk dk js pa cap w hM hJ (by omega) hf h8).mono ?_
      rintro e w' ⟨r, q, rfl, h1, h2, h3, hB⟩
      exact ⟨hB, .inr (.inr ⟨hf, h8, r, q, rfl, h1, h2, h3⟩)⟩
    · refine (new_many b c n ws st kk ak ok vk dk js pa cap w hM hJ (by omega) hf (by omega)).mono ?_
      rintro e w' ⟨rfl, hB⟩
      exact ⟨hB, .inr (.inl ⟨hf, by omega, rfl⟩)⟩
end Go.Proofs.Ytkgeapmafpeapaa
