/-
  A chain of mounts that lie over one another: how Up leads back.
-/
import Derived.Test.YthmpplcaomgdoaaMWithin
import Derived.Test.YthmpplcaomgdoaaMIn
namespace Go.Proofs.Ythmpplcaomgdoaa.Mt

/-- Mounts with numbers above m. -/
def abo (es : Ents) (m : Int) : Nat := (es.filter fun p => decide (m < p.n)).length
theorem filter_len_lt {es : Ents} {P Q : Ld → Bool} (hPQ : ∀ p ∈ es, P p = true → Q p = true) {x : Ld} (hx : x ∈ es) (hq : Q x = true) (hp : P x = false) : (es.filter P).length < (es.filter Q).length := by
  induction es with
  | nil => simp at hx
  | cons a l ih =>
    have hle : (l.filter P).length ≤ (l.filter Q).length := by
      clear ih hx
      induction l with
      | nil => simp
      | cons b l ih2 =>
        have h1 := hPQ b (by simp)
        have := ih2 (fun p hp => hPQ p (by simp at hp ⊢; rcases hp with h | h <;> simp [h]))
        cases hb : P b <;> cases hc : Q b <;> simp_all <;> omega
    rcases List.mem_cons.1 hx with rfl | hx
    · simp [hq, hp]; omega
    · have := ih (fun p hp => hPQ p (by simp [hp])) hx
      have h1 := hPQ a (by simp)
      cases hb : P a <;> cases hc : Q a <;> simp_all <;> omega
theorem abo_lt {es : Ents} {m : Int} {x : Ld} (hx : x ∈ es) (h : m < x.n) : abo es x.n < abo es m :=
  filter_len_lt (fun p _ hp => by simp at hp ⊢; omega) hx (by simpa using h) (by simp)
theorem abo_le (es : Ents) (m : Int) : abo es m ≤ es.length := List.length_filter_le _ _
/-- One step more. -/
theorem dn_succ (es : Ents) : ∀ (j : Nat) (m n : Int), dn es (j + 1) m n = (if any es (isAt (dn es j m n).1 (dn es j m n).2) then ((fst es (isAt (dn es j m n).1 (dn es j m n).2)).n, (fst es (isAt (dn es j m n).1 (dn es j m n).2)).top) else dn es j m n)
  | 0, m, n => by
    rw [dn]
    simp only [dn]
  | j + 1, m, n => by
    rw [dn]
    cases ha : any es (isAt m n) with
    | true =>
      simp only [if_true]
      rw [dn_succ es j]
      have e : dn es (j + 1) m n = dn es j (fst es (isAt m n)).n (fst es (isAt m n)).top := by rw [dn, ha]; rfl
      rw [e]
    | false =>
      have e : dn es (j + 1) m n = (m, n) := dn_stop _ ha
      rw [e]
      simp [ha]
theorem chain {md : Int} {es : Ents} (h : Eld md es) : ∀ (c : Nat) (m n : Int), abo es m ≤ c →
    ∃ K, K ≤ c ∧ (∀ j, j < K → any es (isAt (dn es j m n).1 (dn es j m n).2) = true) ∧ any es (isAt (dn es K m n).1 (dn es K m n).2) = false ∧ dn es K m n = down md es m n := by
  intro c
  induction c with
  | zero =>
    intro m n hc
    cases ha : any es (isAt m n) with
    | true =>
      obtain ⟨h1, h2⟩ := fst_mem ha
      have := abo_lt h1 (h.next ha).1
      omega
    | false => exact ⟨0, Nat.le_refl _, fun j hj => by omega, ha, (down_stop ha).symm⟩
  | succ c ih =>
    intro m n hc
    cases ha : any es (isAt m n) with
    | true =>
      obtain ⟨h1, h2⟩ := fst_mem ha
      have hlt := abo_lt h1 (h.next ha).1
      obtain ⟨K, k1, k2, k3, k4⟩ := ih (fst es (isAt m n)).n (fst es (isAt m n)).top (by omega)
      have e : ∀ j, dn es (j + 1) m n = dn es j (fst es (isAt m n)).n (fst es (isAt m n)).top := fun j => by rw [dn, ha]; rfl
      refine ⟨K + 1, by omega, fun j hj => ?_, by rw [e]; exact k3, by rw [e, k4]; exact (down_step h ha).symm⟩
      cases j with
      | zero => exact ha
      | succ j => rw [e]; exact k2 j (by omega)
    | false => exact ⟨0, Nat.zero_le _, fun j hj => by omega, ha, (down_stop ha).symm⟩
theorem dn_gt {md : Int} {es : Ents} (h : Eld md es) {m n : Int} {K : Nat} (hk : ∀ j, j < K → any es (isAt (dn es j m n).1 (dn es j m n).2) = true) : ∀ j, j < K → m < (dn es (j + 1) m n).1
  | 0, hj => by
    rw [dn_succ, hk 0 hj]
    exact (h.next (hk 0 hj)).1
  | j + 1, hj => by
    have ih := dn_gt h hk j (by omega)
    rw [dn_succ, hk (j + 1) hj]
    have := (h.next (hk (j + 1) hj)).1
    simp only [if_true]
    omega
theorem find_num {es : Ents} (hr : Rise es) {x : Ld} (hx : x ∈ es) : es.find? (isN x.n) = some x := by
  induction es with
  | nil => simp at hx
  | cons a l ih =>
    obtain ⟨h1, h2⟩ := List.pairwise_cons.1 hr
    rcases List.mem_cons.1 hx with rfl | hx
    · simp [isN]
    · have := h1 x hx
      rw [List.find?_cons_of_neg (by simp [isN]; omega)]
      exact ih h2 hx
/-- Up of where a step led is where it began. -/
theorem up_back {B : Int} {t : T} (h : Wf B t) {m n : Int} (ha : any t.es (isAt m n) = true) :
    upIs t.es (fst t.es (isAt m n)).n (fst t.es (isAt m n)).top = true ∧ upM t.es (fst t.es (isAt m n)).n (fst t.es (isAt m n)).top = m ∧ upN t.es (fst t.es (isAt m n)).n (fst t.es (isAt m n)).top = n ∧
    rootIs t.es (fst t.es (isAt m n)).n = true ∧ rootTop t.rt t.es (fst t.es (isAt m n)).n = (fst t.es (isAt m n)).top := by
  obtain ⟨h1, h2⟩ := fst_mem ha
  have hf := find_num h.rise h1
  have hp := h.num _ h1
  simp only [isAt, decide_eq_true_eq] at h2
  generalize fst t.es (isAt m n) = x at *
  have e1 : fst t.es (isN x.n) = x := by rw [fst, hf]; rfl
  have e2 : any t.es (isN x.n) = true := by rw [any, hf]; rfl
  have hu : upIs t.es x.n x.top = true := by simp [upIs, e1, e2]
  refine ⟨hu, ?_, ?_, ?_, ?_⟩
  · rw [upM, hu, e1]; exact h2.1
  · rw [upN, hu, e1]; exact h2.2
  · rw [rootIs, if_neg (by omega), e2]
  · rw [rootTop, if_neg (by omega), e1]
end Go.Proofs.Ythmpplcaomgdoaa.Mt
