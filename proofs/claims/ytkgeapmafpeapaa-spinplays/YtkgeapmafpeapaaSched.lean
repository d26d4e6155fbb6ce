/-
  Who is picked in turn: while jobs are open each is picked within as many steps as there are open ones; so all are done behind a bound of steps.
-/
import Derived.Test.YtkgeapmafpeapaaSteps
namespace Go.Proofs.Ytkgeapmafpeapaa
open Go.RowKit

def opn (ms : List Mach) : List Nat := opens ms ms.length
theorem mem_opn {ms : List Mach} {k : Nat} : k ∈ opn ms ↔ ∃ M, ms[k]? = some M ∧ M.done = false := by
  unfold opn opens
  simp only [List.mem_filter, List.mem_range, doneAt, Bool.not_eq_true']
  constructor
  · rintro ⟨h1, h2⟩
    have e : ms[k]? = some ms[k] := List.getElem?_eq_getElem h1
    rw [e] at h2
    exact ⟨_, e, h2⟩
  · rintro ⟨M, h1, h2⟩
    exact ⟨(List.getElem?_eq_some_iff.1 h1).1, by rw [h1]; exact h2⟩
theorem opn_congr {ms ms' : List Mach} (hl : ms'.length = ms.length) (h : ∀ i, doneAt ms' i = doneAt ms i) : opn ms' = opn ms := by
  unfold opn opens
  rw [hl]
  exact congrArg (fun f => List.filter f (List.range ms.length)) (funext fun i => by rw [h])

def pk (ms : List Mach) (i : Nat) : Nat := (opn ms).getD (i % (opn ms).length) 0
theorem pk_mem {ms : List Mach} (h : opn ms ≠ []) (i : Nat) : pk ms i ∈ opn ms := by
  have hl : 0 < (opn ms).length := List.length_pos_iff.2 h
  have hm := Nat.mod_lt i hl
  unfold pk
  rw [List.getD_eq_getElem?_getD, List.getElem?_eq_getElem hm]
  exact List.getElem_mem hm

abbrev State := List Mach × List Int

/-- What is asked of a way to tell that states come to their end: ev counts what is still to happen, des tells of a job that something happens within so many of its steps. -/
structure Goes (Inv : State → Prop) (ev : State → Nat) (des : State → Nat → Nat → Prop) (c0 r0 : Nat) : Prop where
  few : ∀ S, Inv S → (opn S.1).length ≤ c0
  some : ∀ S, Inv S → opn S.1 ≠ [] → 1 ≤ ev S ∧ ∃ h rem, h ∈ opn S.1 ∧ 1 ≤ rem ∧ rem ≤ r0 ∧ des S h rem
  step : ∀ S k, Inv S → k ∈ opn S.1 → Inv (stepAt S.1 S.2 k) ∧
    (ev (stepAt S.1 S.2 k) < ev S ∨ (ev (stepAt S.1 S.2 k) = ev S ∧ opn (stepAt S.1 S.2 k).1 = opn S.1 ∧ ∀ h rem, h ∈ opn S.1 → des S h rem → 1 ≤ rem →
      (k = h → ∃ rem', 1 ≤ rem' ∧ rem' < rem ∧ des (stepAt S.1 S.2 k) h rem') ∧ (k ≠ h → des (stepAt S.1 S.2 k) h rem)))

/-- The bound: what is left and what has gone by are no more than B. -/
def Left (ev : State → Nat) (des : State → Nat → Nat → Prop) (c0 r0 B : Nat) (S : State) (i t : Nat) : Prop :=
  opn S.1 = [] ∨ ∃ h rem d, h ∈ opn S.1 ∧ 1 ≤ rem ∧ rem ≤ r0 ∧ des S h rem ∧ d < c0 ∧ pk S.1 (i + d) = h ∧ 1 ≤ ev S ∧ (ev S - 1) * (r0 * c0) + (rem - 1) * c0 + d + 1 + t ≤ B

theorem reach {ms : List Mach} {h : Nat} (hh : h ∈ opn ms) (i : Nat) : ∃ d, d < (opn ms).length ∧ pk ms (i + d) = h := by
  obtain ⟨p, hp, rfl⟩ := List.mem_iff_getElem.1 hh
  have hc : 0 < (opn ms).length := by omega
  refine ⟨(p + (opn ms).length - i % (opn ms).length) % (opn ms).length, Nat.mod_lt _ hc, ?_⟩
  have hm := Nat.mod_lt i hc
  unfold pk
  have e : (i + (p + (opn ms).length - i % (opn ms).length) % (opn ms).length) % (opn ms).length = p := by
    rw [Nat.add_mod, Nat.mod_mod, ← Nat.add_mod]
    have e1 : i + (p + (opn ms).length - i % (opn ms).length) = p + (opn ms).length * (i / (opn ms).length + 1) := by
      have := Nat.div_add_mod i (opn ms).length
      rw [Nat.mul_add]
      omega
    rw [e1, Nat.add_mul_mod_self_left, Nat.mod_eq_of_lt hp]
  rw [e, List.getD_eq_getElem?_getD, List.getElem?_eq_getElem hp]
  rfl

theorem Goes.start {Inv : State → Prop} {ev : State → Nat} {des : State → Nat → Nat → Prop} {c0 r0 : Nat} (G : Goes Inv ev des c0 r0) {S : State} (hS : Inv S) {E B t : Nat} (hE : ev S ≤ E) (hB : E * (r0 * c0) + t ≤ B) (i : Nat) : Left ev des c0 r0 B S i t := by
  by_cases ho : opn S.1 = []
  · exact .inl ho
  · obtain ⟨h1, h, rem, hh, r1, r2, hd⟩ := G.some S hS ho
    obtain ⟨d, hd1, hd2⟩ := reach hh i
    have hf := G.few S hS
    refine .inr ⟨h, rem, d, hh, r1, r2, hd, by omega, hd2, h1, ?_⟩
    have e1 : (ev S - 1) * (r0 * c0) + r0 * c0 = ev S * (r0 * c0) := by
      obtain ⟨e, he⟩ : ∃ e, ev S = e + 1 := ⟨ev S - 1, by omega⟩
      rw [he, Nat.add_sub_cancel, Nat.succ_mul]
    have e2 : ev S * (r0 * c0) ≤ E * (r0 * c0) := Nat.mul_le_mul_right _ hE
    have e3 : (rem - 1) * c0 + c0 ≤ r0 * c0 := by
      have : (rem - 1 + 1) * c0 ≤ r0 * c0 := Nat.mul_le_mul_right _ (by omega)
      rwa [Nat.succ_mul] at this
    omega

theorem Goes.next {Inv : State → Prop} {ev : State → Nat} {des : State → Nat → Nat → Prop} {c0 r0 B : Nat} (G : Goes Inv ev des c0 r0) {S : State} (hS : Inv S) {i t : Nat} (hL : Left ev des c0 r0 B S i t) (ho : opn S.1 ≠ []) :
    t < B ∧ Left ev des c0 r0 B (stepAt S.1 S.2 (pk S.1 i)) (i + 1) (t + 1) := by
  rcases hL with h | ⟨h, rem, d, hh, r1, r2, hd, d1, d2, e1, hb⟩
  · exact absurd h ho
  · refine ⟨by omega, ?_⟩
    have hk := pk_mem ho i
    obtain ⟨hI, hs⟩ := G.step S _ hS hk
    rcases hs with hlt | ⟨heq, hop, hdes⟩
    · exact G.start hI (E := ev S - 1) (by omega) (by omega) (i + 1)
    · have hf := G.few S hS
      obtain ⟨hy, hn⟩ := hdes h rem hh hd r1
      by_cases hkh : pk S.1 i = h
      · obtain ⟨rem', q1, q2, q3⟩ := hy hkh
        have hh' : h ∈ opn (stepAt S.1 S.2 (pk S.1 i)).1 := by rw [hop]; exact hh
        obtain ⟨d', hd1, hd2⟩ := reach hh' (i + 1)
        rw [hop] at hd1
        refine .inr ⟨h, rem', d', hh', q1, by omega, q3, by omega, hd2, by omega, ?_⟩
        rw [heq]
        have e3 : (rem' - 1) * c0 + c0 ≤ (rem - 1) * c0 := by
          have : (rem' - 1 + 1) * c0 ≤ (rem - 1) * c0 := Nat.mul_le_mul_right _ (by omega)
          rwa [Nat.succ_mul] at this
        omega
      · have hd0 : d ≠ 0 := fun h0 => hkh (by rw [h0] at d2; exact d2)
        refine .inr ⟨h, rem, d - 1, by rw [hop]; exact hh, r1, r2, hn hkh, by omega, ?_, by omega, by rw [heq]; omega⟩
        unfold pk at *
        rw [hop, show i + 1 + (d - 1) = i + d by omega]
        exact d2
end Go.Proofs.Ytkgeapmafpeapaa
