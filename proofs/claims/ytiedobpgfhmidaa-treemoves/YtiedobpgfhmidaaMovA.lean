/-
  A Move that is done is undone by the Move back: the tree as plain data.
-/
import Derived.Test.YtiedobpgfhmidaaApiB
namespace Go.Proofs.Ytiedobpgfhmidaa
open Go.RowKit

theorem Srt.ext : ∀ {l m : List Ent}, Srt l → Srt m → (∀ e, e ∈ l ↔ e ∈ m) → l = m
  | [], [], _, _, _ => rfl
  | [], b :: m, _, _, h => by have := (h b).2 (by simp); simp at this
  | a :: l, [], _, _, h => by have := (h a).1 (by simp); simp at this
  | a :: l, b :: m, hl, hm, h => by
    obtain ⟨l1, l2⟩ := List.pairwise_cons.1 hl
    obtain ⟨m1, m2⟩ := List.pairwise_cons.1 hm
    have hab : a = b := by
      rcases List.mem_cons.1 ((h a).1 (by simp)) with e | ha
      · exact e
      · rcases List.mem_cons.1 ((h b).2 (by simp)) with e | hb
        · exact e.symm
        · have h1 := m1 a ha
          have h2 := cmpS_flip.1 (l1 b hb)
          omega
    subst hab
    congr 1
    refine Srt.ext l2 m2 fun e => ⟨fun he => ?_, fun he => ?_⟩
    · rcases List.mem_cons.1 ((h e).1 (List.mem_cons_of_mem _ he)) with e1 | e1
      · subst e1; exact absurd rfl (cmpS_ne (l1 _ he))
      · exact e1
    · rcases List.mem_cons.1 ((h e).2 (List.mem_cons_of_mem _ he)) with e1 | e1
      · subst e1; exact absurd rfl (cmpS_ne (m1 _ he))
      · exact e1
theorem del_put {l : List Ent} (h : Srt l) {s : ByteArray} (hs : getE l s = none) (n : Int) : delE (putE l s n) s = l := by
  refine Srt.ext ((h.put hs n).del s) h fun e => ?_
  rw [delE_mem (h.put hs n) (n := n) (by rw [putE_get h hs, if_pos rfl]), putE_mem]
  constructor
  · rintro ⟨rfl | h1, h2⟩
    · exact absurd rfl h2
    · exact h1
  · intro he
    exact ⟨.inr he, getE_none.1 hs e he⟩
theorem put_del {l : List Ent} (h : Srt l) {s : ByteArray} {n : Int} (hg : getE l s = some n) : putE (delE l s) s n = l := by
  refine Srt.ext ((h.del s).put (by rw [delE_get h hg, if_pos rfl]) n) h fun e => ?_
  rw [putE_mem, delE_mem h hg]
  constructor
  · rintro (rfl | ⟨h1, _⟩)
    · exact getE_some hg
    · exact h1
  · intro he
    by_cases e1 : e.1 = s
    · exact .inl (h.uniq he (getE_some hg) e1)
    · exact .inr ⟨he, e1⟩
section
variable {B : Nat} {T : Tr}
/-- No Dir has more links than may be. -/
def LkB (T : Tr) : Prop := ∀ n x, T.nd n = some x → x.kind = 1 → T.links x ≤ 16
theorem links_congr {T T' : Tr} {x : Nd} (h : ∀ e ∈ x.ins, T'.kindOf e.2 = T.kindOf e.2) : T'.links x = T.links x := by
  simp only [Tr.links]
  rw [List.countP_congr fun e he => by rw [h e he]]
theorem LkB.new (nodes blocks : Nat) : LkB (Tr.new nodes blocks) := by
  intro n x h _
  simp only [Tr.new] at h
  split at h
  · cases h; simp [Tr.links]
  · cases h
theorem LkB.make (hw : Wf B T) (hL : LkB T) (dir : Int) (s : ByteArray) (kind mode uid gid : Int) (text : ByteArray) : LkB (T.make dir s kind mode uid gid text) := by
  by_cases h : T.makeE dir s kind text = 0
  · obtain ⟨d, h1, h2, h3, h4, h5, h6, h7⟩ := Tr.makeE0 h
    have hl16 : ¬ (kind = 1 ∧ T.links d = 16) := by
      intro hc
      have hd : T.dir dir = some d := Tr.dir_some.2 ⟨h1, h2⟩
      simp only [Tr.makeE, hd] at h
      split at h
      · rw [if_neg (by simp [refusesE, h3]; omega)] at h
        omega
      · omega
    have hnd := fun k => Tr.make_nd hw.k (mode := mode) (uid := uid) (gid := gid) h h1 k
    have hkey : ∀ m y, T.nd m = some y → m ≠ (T.made : Int) + 1 := fun m y hy => by
      have := hw.k.key m y hy
      omega
    have hko : ∀ m, m ≠ (T.made : Int) + 1 → (T.make dir s kind mode uid gid text).kindOf m = T.kindOf m := by
      intro m hm
      simp only [Tr.kindOf]
      rw [hnd, if_neg hm]
      by_cases e : m = dir
      · rw [if_pos e, e, h1]
      · rw [if_neg e]
    have hkn : (T.make dir s kind mode uid gid text).kindOf ((T.made : Int) + 1) = kind := by
      simp only [Tr.kindOf]
      rw [hnd, if_pos rfl]
    have hent : ∀ m y, T.nd m = some y → ∀ e ∈ y.ins, (T.make dir s kind mode uid gid text).kindOf e.2 = T.kindOf e.2 := fun m y hy e he => by
      obtain ⟨z, hz⟩ := hw.k.ent hy he
      exact hko e.2 (hkey _ _ hz)
    intro n x hx hk
    rw [hnd] at hx
    by_cases e : n = (T.made : Int) + 1
    · rw [if_pos e] at hx
      cases hx
      simp only at hk
      simp [Tr.links, hk]
    · rw [if_neg e] at hx
      by_cases e2 : n = dir
      · rw [if_pos e2] at hx
        cases hx
        have hd0 := hL dir d h1 h2
        simp only [Tr.links, h2, h4, and_self, if_true] at hd0 hl16 ⊢
        rw [putE_count, List.countP_congr fun e he => by rw [hent dir d h1 e he]]
        simp only [hkn, decide_eq_true_eq]
        split <;> omega
      · rw [if_neg e2] at hx
        rw [links_congr (hent n x hx)]
        exact hL n x hx hk
  · rw [Tr.make, if_neg h]; exact hL
theorem Ab.split {T : Tr} : ∀ {l : List Int} {n m : Int}, Ab T n l → m ∈ l → ∃ l', Ab T m l' ∧ ∀ a ∈ l', a ∈ l
  | [], _, _, _, h => by simp at h
  | u :: l, n, m, g, h => by
    obtain ⟨g1, g2, g3, g4⟩ := g
    rcases List.mem_cons.1 h with rfl | h
    · exact ⟨l, g4, fun a ha => List.mem_cons_of_mem _ ha⟩
    · obtain ⟨l', h1, h2⟩ := Ab.split g4 h
      exact ⟨l', h1, fun a ha => List.mem_cons_of_mem _ (h2 a ha)⟩
theorem Ab.closed {T : Tr} : ∀ {l : List Int} {n : Int}, Ab T n l → ∀ k ∈ n :: l, T.up k ≠ 0 → T.up k ∈ n :: l
  | [], n, g, k, hk, h0 => by
    simp at hk; subst hk
    simp only [Ab] at g
    rcases g with g | g
    · exact absurd g h0
    · rw [g]; simp
  | u :: l, n, g, k, hk, h0 => by
    obtain ⟨g1, g2, g3, g4⟩ := g
    rcases List.mem_cons.1 hk with rfl | hk
    · rw [g1]; simp
    · exact List.mem_cons_of_mem _ (Ab.closed g4 k hk h0)
end
end Go.Proofs.Ytiedobpgfhmidaa
