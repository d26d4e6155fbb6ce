/-
  Plain reasoning on files that are open: how many of a process, the lowest descriptor that it has not, what Seek, Open and Close make of them.
-/
import Derived.Test.YtocaonbmijmbmaaOps
namespace Go.Proofs.Ytocaonbmijmbmaa

theorem cnt_used (es : List Op) (p : Int) (m : Nat) (h : ∀ j, j < m → used es p j = true) : m ≤ es.countP (fun o => o.p == p && (decide (0 ≤ o.d) && decide (o.d < (m : Int)))) := by
  induction m with
  | zero => exact Nat.zero_le _
  | succ m ih =>
    have h1 := ih fun j hj => h j (by omega)
    have h2 := h m (by omega)
    have key : ∀ l : List Op, l.countP (fun o => o.p == p && (decide (0 ≤ o.d) && decide (o.d < ((m + 1 : Nat) : Int)))) = l.countP (fun o => o.p == p && (decide (0 ≤ o.d) && decide (o.d < (m : Int)))) + l.countP (isPd p m) := by
      intro l
      induction l with
      | nil => rfl
      | cons o l il =>
        simp only [List.countP_cons, il]
        have : (if (o.p == p && (decide (0 ≤ o.d) && decide (o.d < ((m + 1 : Nat) : Int)))) = true then 1 else 0) = (if (o.p == p && (decide (0 ≤ o.d) && decide (o.d < (m : Int)))) = true then 1 else 0) + (if isPd p m o = true then 1 else 0) := by
          simp only [isPd, Bool.and_eq_true, beq_iff_eq, decide_eq_true_eq]
          by_cases e1 : o.p = p
          · by_cases e2 : o.d = (m : Int)
            · rw [if_pos ⟨e1, by omega, by omega⟩, if_neg (by omega), if_pos ⟨e1, e2⟩]
            · by_cases e3 : 0 ≤ o.d ∧ o.d < (m : Int)
              · rw [if_pos ⟨e1, by omega, by omega⟩, if_pos ⟨e1, by omega, by omega⟩, if_neg (by omega)]
              · rw [if_neg (by omega), if_neg (by omega), if_neg (by omega)]
          · rw [if_neg (by omega), if_neg (by omega), if_neg (by omega)]
        omega
    have h3 : 0 < es.countP (isPd p m) := by
      rw [List.countP_pos_iff]
      unfold used at h2
      rw [List.any_eq_true] at h2
      exact h2
    rw [key]; omega
theorem cnt_used' (es : List Op) (p : Int) (m : Nat) (h : ∀ j, j < m → used es p j = true) : m ≤ es.countP (isPr p) := by
  refine Nat.le_trans (cnt_used es p m h) (List.countP_mono_left fun o _ ho => ?_)
  simp only [Bool.and_eq_true] at ho
  exact ho.1

/-- The lowest descriptor that p has not. -/
def low (es : List Op) (p : Int) : Nat := ((List.range 65).find? (fun j => !used es p j)).getD 0
theorem low_spec {es : List Op} (p : Int) (h : es.length ≤ 64) : (∀ j, j < low es p → used es p j = true) ∧ used es p (low es p) = false ∧ low es p ≤ es.countP (isPr p) := by
  have hle : es.countP (isPr p) ≤ 64 := Nat.le_trans List.countP_le_length h
  have hx : ∃ j, (List.range 65).find? (fun j => !used es p j) = some j := by
    cases e : (List.range 65).find? (fun j => !used es p j) with
    | some j => exact ⟨j, rfl⟩
    | none =>
      rw [List.find?_eq_none] at e
      have := cnt_used' es p 65 fun j hj => by simpa using e j (List.mem_range.2 hj)
      omega
  obtain ⟨j, hj⟩ := hx
  have e : low es p = j := by unfold low; rw [hj]; rfl
  rw [e]
  rw [List.find?_eq_some_iff_getElem] at hj
  obtain ⟨h1, i, hi, h2, h3⟩ := hj
  simp only [List.getElem_range] at h2
  subst h2
  have hA : ∀ j, j < i → used es p j = true := by
    intro j hj
    have := h3 j hj
    simpa using this
  exact ⟨hA, by simpa using h1, cnt_used' es p i hA⟩
theorem low_eq {es : List Op} {p : Int} (h : es.length ≤ 64) {L : Nat} (h1 : ∀ j, j < L → used es p j = true) (h2 : used es p L = false) : low es p = L := by
  obtain ⟨a, b, -⟩ := low_spec p h
  by_cases e : low es p < L
  · rw [h1 _ e] at b; cases b
  · by_cases e2 : L < low es p
    · rw [a _ e2] at h2; cases h2
    · omega

def o0 : Op := ⟨0, 0, 0, 0, 0, 0⟩
/-- What Get answers. -/
def getV (es : List Op) (p d : Int) : Op := if findE es p d = 0 then (es[fdI es p d]?).getD o0 else o0
/-- What Seek answers, and leaves. -/
def seekE (es : List Op) (p d s : Int) : Int := if findE es p d = 0 then (if s < 0 then 39 else 0) else findE es p d
def seekL (es : List Op) (p d s : Int) : List Op := if findE es p d = 0 then (if s < 0 then es else es.set (fdI es p d) { getV es p d with s := s }) else es
/-- What Open answers, and leaves. -/
def openA (es : List Op) (n : Nat) (p : Int) : Int := if roomE es n p = 0 then (low es p : Int) else 0
def openL (es : List Op) (n : Nat) (p m k f : Int) : List Op := if roomE es n p = 0 then es ++ [⟨p, low es p, m, k, f, 0⟩] else es
/-- What Close leaves. -/
def closeL (es : List Op) (p d : Int) : List Op := if findE es p d = 0 then (es.set (fdI es p d) ((es[es.length - 1]?).getD o0)).take (es.length - 1) else es

theorem findE_zero {es : List Op} {p d : Int} (he : findE es p d = 0) : isP p = true ∧ fdI es p d < es.length ∧ findA es p d = (fdI es p d : Int) ∧ ∃ o, es[fdI es p d]? = some o ∧ o.p = p ∧ o.d = d := by
  unfold findE at he
  split at he
  · rename_i hp
    split at he
    · rename_i hi
      refine ⟨hp, hi, by unfold findA; rw [if_pos hp, if_pos hi], _, List.getElem?_eq_getElem hi, ?_⟩
      have := List.findIdx_getElem (xs := es) (p := isPd p d) (w := hi)
      simp only [isPd, Bool.and_eq_true, beq_iff_eq] at this
      exact this
    · simp at he
  · simp at he
theorem roomE_zero {es : List Op} {n : Nat} {p : Int} (he : roomE es n p = 0) : isP p = true ∧ ¬ es.countP (isPr p) = 8 ∧ ¬ es.length = n := by
  unfold roomE at he
  split at he
  · split at he
    · simp at he
    · split at he
      · simp at he
      · exact ⟨by assumption, by assumption, by assumption⟩
  · simp at he
end Go.Proofs.Ytocaonbmijmbmaa
