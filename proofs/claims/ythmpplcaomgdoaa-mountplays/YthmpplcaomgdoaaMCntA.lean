/-
  How many mounts there are: what List and Above count.
-/
import Derived.Test.YthmpplcaomgdoaaMDownA
namespace Go.Proofs.Ythmpplcaomgdoaa.Mt
open Go.RowKit

theorem abv_nil {es : Ents} {m : Int} : (abv es m).length = 0 ↔ any es (isM m) = false := by
  rw [any_false, abv, List.length_map, List.length_eq_zero_iff, List.filter_eq_nil_iff]
  simp
/-- Unbind is done where the mount is there, is not 0, and none lies in it. -/
theorem unb_ok {B : Int} {t : T} (h : Wf B t) (m : Int) : unbE t.es m = 0 ↔ (m ≠ 0 ∧ rootIs t.es m = true ∧ (abv t.es m).length = 0) := by
  rw [abv_nil]
  constructor
  · intro hz
    obtain ⟨h1, h2⟩ := unbE_zero hz
    obtain ⟨p, hp, he⟩ := any_iff.1 h1
    have hn := h.num p hp
    simp [isN] at he
    exact ⟨by omega, by rw [rootIs, if_neg (by omega), h1], h2⟩
  · rintro ⟨h0, h1, h2⟩
    rw [rootIs, if_neg h0] at h1
    simp [unbE, h1, h2]
theorem unb_len {B : Int} {t : T} (h : Wf B t) {m : Int} (hz : unbE t.es m = 0) : (lst (t.unbind m).es).length = (lst t.es).length - 1 ∧ 2 ≤ (lst t.es).length := by
  have := one_gone h.rise (unbE_zero hz).1
  simp only [T.unbind, if_pos hz, lst, List.length_cons, List.length_map]
  omega
theorem unb_same {t : T} {m : Int} (hz : unbE t.es m ≠ 0) : t.unbind m = t := by rw [T.unbind, if_neg hz]
theorem unb_md (t : T) (m : Int) : (t.unbind m).md = t.md := by
  unfold T.unbind
  split <;> rfl
theorem bind_yes' {t : T} {am an nd : Int} (hz : bindE t.es am an = 0) : t.bindN am an = t.md + 1 ∧ (t.bind am an nd).md = t.md + 1 ∧ (lst (t.bind am an nd).es).length = (lst t.es).length + 1 := by
  simp [T.bindN, T.bind, hz, lst]
theorem bind_same {t : T} {am an nd : Int} (hz : bindE t.es am an ≠ 0) : t.bind am an nd = t := by rw [T.bind, if_neg hz]
/-- Behind Bind, Down of the place leads elsewhere. -/
theorem bind_down {B : Int} {t : T} (h : Wf B t) {am an nd : Int} (hz : bindE t.es am an = 0) : am < (down (t.bind am an nd).md (t.bind am an nd).es am an).1 := by
  have hw := h.bind am an nd
  have ha : any (t.bind am an nd).es (isAt am an) = true := by
    rw [T.bind, if_pos hz, any_append]
    simp [any, isAt]
  obtain ⟨K, k1, k2, k3, k4⟩ := chain hw.eld (t.bind am an nd).es.length am an (abo_le _ _)
  rw [← k4]
  cases K with
  | zero => simp only [dn] at k3; rw [ha] at k3; cases k3
  | succ j => exact dn_gt hw.eld k2 j (by omega)
theorem lst_nodup {B : Int} {t : T} (h : Wf B t) : (lst t.es).Nodup := by
  rw [lst, List.nodup_cons]
  refine ⟨?_, ?_⟩
  · intro hm
    obtain ⟨p, hp, he⟩ := List.mem_map.1 hm
    have := h.num p hp
    omega
  · refine List.pairwise_map.2 (h.rise.imp fun hpq => ?_)
    omega
theorem lst_mem {B : Int} {t : T} (h : Wf B t) {p : Ld} (hp : p ∈ t.es) : p.am ∈ lst t.es := by
  have hu := h.up p hp
  unfold rootIs at hu
  split at hu
  · rename_i e; rw [e, lst]; simp
  · obtain ⟨q, hq, he⟩ := any_iff.1 hu
    simp [isN] at he
    rw [lst, List.mem_cons]
    exact .inr (List.mem_map.2 ⟨q, hq, he⟩)
theorem sum_zero (ks : List Int) : (ks.map fun _ => 0).sum = 0 := by
  induction ks with
  | nil => rfl
  | cons k ks ih => simp only [List.map_cons, List.sum_cons, ih]
theorem sum_one : ∀ {ks : List Int} {x : Int}, ks.Nodup → x ∈ ks → (ks.map fun k => if x = k then 1 else 0).sum = 1
  | [], _, _, h => by simp at h
  | k :: ks, x, hn, h => by
    obtain ⟨h1, h2⟩ := List.nodup_cons.1 hn
    by_cases e : x = k
    · subst e
      have : (ks.map fun k => if x = k then 1 else 0).sum = 0 := by
        rw [List.map_congr_left (g := fun _ => 0)]
        · exact sum_zero ks
        · intro a ha
          rw [if_neg]
          rintro rfl
          exact h1 ha
      simp [this]
    · have hx : x ∈ ks := by
        rcases List.mem_cons.1 h with h | h
        · exact absurd h e
        · exact h
      simp [e, sum_one h2 hx]
theorem sum_add (ks : List Int) (f g : Int → Nat) : (ks.map fun k => f k + g k).sum = (ks.map f).sum + (ks.map g).sum := by
  induction ks with
  | nil => rfl
  | cons k ks ih => simp only [List.map_cons, List.sum_cons, ih]; omega
theorem sum_abv : ∀ (es : Ents) {ks : List Int}, ks.Nodup → (∀ p ∈ es, p.am ∈ ks) → (ks.map fun k => (abv es k).length).sum = es.length
  | [], ks, _, _ => by
    rw [List.map_congr_left (g := fun _ => 0)]
    · exact sum_zero ks
    · intro a _; simp [abv]
  | p :: es, ks, hn, hm => by
    have e : ∀ k, (abv (p :: es) k).length = (if p.am = k then 1 else 0) + (abv es k).length := by
      intro k
      by_cases h : p.am = k
      · simp [abv, isM, h]; omega
      · simp [abv, isM, h]
    rw [List.map_congr_left (g := fun k => (if p.am = k then 1 else 0) + (abv es k).length) (fun k _ => e k), sum_add ks (fun k => if p.am = k then 1 else 0) (fun k => (abv es k).length), sum_one hn (hm p (by simp)), sum_abv es hn (fun q hq => hm q (by simp [hq]))]
    simp; omega
/-- The sum of the first i. -/
def sm (t : T) (i : Nat) : Nat := (((lst t.es).take i).map fun k => (abv t.es k).length).sum
theorem sm_next {t : T} {i : Nat} {k : Int} (h : (lst t.es)[i]? = some k) : sm t (i + 1) = sm t i + (abv t.es k).length := by
  rw [sm, sm, List.take_add_one, h]; simp
theorem sm_all {B : Int} {t : T} (h : Wf B t) : sm t (lst t.es).length = (lst t.es).length - 1 := by
  rw [sm, List.take_length, sum_abv t.es (lst_nodup h) (fun p hp => lst_mem h hp)]
  simp [lst]
theorem abv_len' (es : Ents) (m : Int) : (abv es m).length ≤ es.length := by
  have := abv_len es m es.length
  rwa [List.take_length] at this
theorem sm_le {B : Int} {t : T} (h : Wf B t) : ∀ i, sm t i ≤ i * 7
  | 0 => by simp [sm]
  | i + 1 => by
    have ih := sm_le h i
    cases hk : (lst t.es)[i]? with
    | none =>
      have e : sm t (i + 1) = sm t i := by
        rw [sm, sm, List.take_add_one, hk]; simp
      omega
    | some k =>
      rw [sm_next hk]
      have := abv_len' t.es k
      have := h.le
      omega
end Go.Proofs.Ythmpplcaomgdoaa.Mt
