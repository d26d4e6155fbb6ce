/-
  Names in order of bytes; lists of names, each with its node.
-/
import Derived.Test.YtlngeaacjbdmhaaPure
import Derived.Lib.Bytealg
namespace Go.Proofs.Ytlngeaacjbdmhaa
open Go.RowKit Go.Maps

def cmpL : List UInt8 → List UInt8 → Int := Lib.compareBytes
theorem cmpL_refl : ∀ l, cmpL l l = 0
  | [] => rfl
  | a :: l => by
    have := cmpL_refl l
    simp only [cmpL, Lib.compareBytes] at *
    rw [if_neg (UInt8.lt_irrefl a), if_neg (UInt8.lt_irrefl a)]
    exact this
theorem cmpL_eq : ∀ {a b}, cmpL a b = 0 → a = b
  | [], [], _ => rfl
  | [], _ :: _, h => by simp [cmpL, Lib.compareBytes] at h
  | _ :: _, [], h => by simp [cmpL, Lib.compareBytes] at h
  | x :: a, y :: b, h => by
    simp only [cmpL, Lib.compareBytes] at h
    by_cases h1 : x < y
    · rw [if_pos h1] at h; omega
    · by_cases h2 : y < x
      · rw [if_neg h1, if_pos h2] at h; omega
      · rw [if_neg h1, if_neg h2] at h
        rw [cmpL_eq h, UInt8.le_antisymm (UInt8.not_lt.1 h2) (UInt8.not_lt.1 h1)]
theorem cmpL_flip : ∀ {a b}, cmpL a b < 0 ↔ 0 < cmpL b a
  | [], [] => by simp [cmpL, Lib.compareBytes]
  | [], _ :: _ => by simp [cmpL, Lib.compareBytes]
  | _ :: _, [] => by simp [cmpL, Lib.compareBytes]
  | x :: a, y :: b => by
    have ih := cmpL_flip (a := a) (b := b)
    simp only [cmpL, Lib.compareBytes] at *
    by_cases h1 : x < y
    · have h2 : ¬ y < x := fun h => UInt8.lt_irrefl _ (UInt8.lt_trans h1 h)
      simp [h1, h2]
    · by_cases h2 : y < x
      · simp [h1, h2]
      · simp only [h1, h2, if_false]
        exact ih
theorem cmpL_trans : ∀ {a b c}, cmpL a b < 0 → cmpL b c < 0 → cmpL a c < 0
  | [], [], _, h, _ => by simp [cmpL, Lib.compareBytes] at h
  | [], _ :: _, [], _, h => by simp [cmpL, Lib.compareBytes] at h
  | [], _ :: _, _ :: _, _, _ => by simp [cmpL, Lib.compareBytes]
  | _ :: _, [], _, h, _ => by simp [cmpL, Lib.compareBytes] at h
  | _ :: _, _ :: _, [], _, h => by simp [cmpL, Lib.compareBytes] at h
  | x :: a, y :: b, z :: c, h, g => by
    have ih := @cmpL_trans a b c
    simp only [cmpL, Lib.compareBytes] at *
    by_cases h1 : x < y
    · by_cases g1 : y < z
      · rw [if_pos (UInt8.lt_trans h1 g1)]; omega
      · by_cases g2 : z < y
        · rw [if_neg g1, if_pos g2] at g; omega
        · obtain rfl := UInt8.le_antisymm (UInt8.not_lt.1 g2) (UInt8.not_lt.1 g1)
          rw [if_pos h1]; omega
    · by_cases h2 : y < x
      · rw [if_neg h1, if_pos h2] at h; omega
      · obtain rfl := UInt8.le_antisymm (UInt8.not_lt.1 h2) (UInt8.not_lt.1 h1)
        rw [if_neg h1, if_neg h1] at h
        by_cases g1 : x < z
        · rw [if_pos g1]; omega
        · by_cases g2 : z < x
          · rw [if_neg g1, if_pos g2] at g; omega
          · rw [if_neg g1, if_neg g2] at g ⊢
            exact ih h g
/-- How two names stand. -/
def cmpS (a b : ByteArray) : Int := cmpL a.data.toList b.data.toList
theorem bytes_ext {a b : ByteArray} (h : a.data.toList = b.data.toList) : a = b := by
  obtain ⟨⟨l⟩⟩ := a
  obtain ⟨⟨m⟩⟩ := b
  simp at h
  rw [h]
theorem cmpS_refl (a : ByteArray) : cmpS a a = 0 := cmpL_refl _
theorem cmpS_eq {a b : ByteArray} (h : cmpS a b = 0) : a = b := bytes_ext (cmpL_eq h)
theorem cmpS_flip {a b : ByteArray} : cmpS a b < 0 ↔ 0 < cmpS b a := cmpL_flip
theorem cmpS_trans {a b c : ByteArray} (h : cmpS a b < 0) (g : cmpS b c < 0) : cmpS a c < 0 := cmpL_trans h g
theorem cmpS_ne {a b : ByteArray} (h : cmpS a b < 0) : a ≠ b := fun e => by rw [e, cmpS_refl] at h; omega

abbrev Ent := ByteArray × Int
/-- The names of a Dir, in their order. -/
def Srt (l : List Ent) : Prop := l.Pairwise fun a b => cmpS a.1 b.1 < 0
/-- Whose name it is. -/
def getE (l : List Ent) (s : ByteArray) : Option Int := (l.find? fun e => decide (e.1 = s)).map (·.2)
/-- How many names stand ahead of it. -/
def pos (l : List Ent) (s : ByteArray) : Nat := l.countP fun e => decide (cmpS e.1 s < 0)
def putE (l : List Ent) (s : ByteArray) (n : Int) : List Ent := l.take (pos l s) ++ (s, n) :: l.drop (pos l s)
def delE (l : List Ent) (s : ByteArray) : List Ent := l.take (pos l s) ++ l.drop (pos l s + 1)
theorem pos_le (l : List Ent) (s : ByteArray) : pos l s ≤ l.length := List.countP_le_length
theorem Srt.get {l : List Ent} (h : Srt l) {i j : Nat} (hij : i < j) {a b : Ent} (ha : l[i]? = some a) (hb : l[j]? = some b) : cmpS a.1 b.1 < 0 := by
  obtain ⟨hi, rfl⟩ := List.getElem?_eq_some_iff.1 ha
  obtain ⟨hj, rfl⟩ := List.getElem?_eq_some_iff.1 hb
  exact List.pairwise_iff_getElem.1 h i j hi hj hij
/-- Those ahead are the first. -/
theorem Srt.pos_split : ∀ {l : List Ent}, Srt l → ∀ s, (∀ e ∈ l.take (pos l s), cmpS e.1 s < 0) ∧ ∀ e ∈ l.drop (pos l s), ¬ cmpS e.1 s < 0
  | [], _, s => by simp
  | a :: l, h, s => by
    have hl : Srt l := (List.pairwise_cons.1 h).2
    have ih := hl.pos_split s
    by_cases ha : cmpS a.1 s < 0
    · have hp : pos (a :: l) s = pos l s + 1 := List.countP_cons_of_pos (by simpa using ha)
      rw [hp]
      simp only [List.take_succ_cons, List.drop_succ_cons, List.mem_cons]
      refine ⟨?_, ih.2⟩
      rintro e (rfl | he)
      · exact ha
      · exact ih.1 e he
    · have h0 : pos (a :: l) s = 0 := by
        rw [pos, List.countP_eq_zero]
        intro e he
        rcases List.mem_cons.1 he with rfl | he
        · simpa using ha
        · have := (List.pairwise_cons.1 h).1 e he
          simp only [decide_eq_true_eq]
          exact fun h' => ha (cmpS_trans this h')
      rw [h0]
      simp only [List.take_zero, List.not_mem_nil, false_imp_iff, implies_true, List.drop_zero, true_and]
      intro e he h'
      rcases List.mem_cons.1 he with rfl | he
      · exact ha h'
      · exact ha (cmpS_trans ((List.pairwise_cons.1 h).1 e he) h')
theorem getE_some {l : List Ent} {s : ByteArray} {n : Int} (h : getE l s = some n) : (s, n) ∈ l := by
  simp only [getE, Option.map_eq_some_iff] at h
  obtain ⟨⟨a, b⟩, h1, rfl⟩ := h
  have h2 := List.find?_some h1
  simp at h2
  subst h2
  exact List.mem_of_find?_eq_some h1
theorem getE_none {l : List Ent} {s : ByteArray} : getE l s = none ↔ ∀ e ∈ l, e.1 ≠ s := by
  simp [getE]
theorem Srt.uniq {l : List Ent} (h : Srt l) {a b : Ent} (ha : a ∈ l) (hb : b ∈ l) (e : a.1 = b.1) : a = b := by
  obtain ⟨i, hi, rfl⟩ := List.getElem_of_mem ha
  obtain ⟨j, hj, rfl⟩ := List.getElem_of_mem hb
  rcases Nat.lt_trichotomy i j with hij | rfl | hij
  · have := List.pairwise_iff_getElem.1 h i j hi hj hij
    exact absurd e (cmpS_ne this)
  · rfl
  · have := List.pairwise_iff_getElem.1 h j i hj hi hij
    exact absurd e.symm (cmpS_ne this)
theorem Srt.getE_mem {l : List Ent} (h : Srt l) {s : ByteArray} {n : Int} : getE l s = some n ↔ (s, n) ∈ l := by
  refine ⟨getE_some, fun hm => ?_⟩
  cases e : getE l s with
  | none => exact absurd rfl (getE_none.1 e _ hm)
  | some m =>
    have := h.uniq hm (getE_some e) rfl
    simp at this
    rw [this]
/-- Where the name stands, if it is there. -/
theorem Srt.at_pos {l : List Ent} (h : Srt l) (s : ByteArray) : (getE l s).isSome = (decide (pos l s < l.length) && match l[pos l s]? with | some e => decide (e.1 = s) | none => false) ∧ ∀ n, getE l s = some n → l[pos l s]? = some (s, n) := by
  obtain ⟨h1, h2⟩ := h.pos_split s
  have key : ∀ n, getE l s = some n → l[pos l s]? = some (s, n) := by
    intro n hn
    have hm := getE_some hn
    rw [← List.take_append_drop (pos l s) l] at hm
    rcases List.mem_append.1 hm with hm | hm
    · exact absurd rfl (cmpS_ne (h1 _ hm))
    · obtain ⟨i, hi, he⟩ := List.getElem_of_mem hm
      rcases Nat.eq_zero_or_pos i with rfl | hp
      · rw [List.getElem_drop] at he
        rw [List.getElem?_eq_some_iff]
        exact ⟨by simp at hi; omega, he⟩
      · exfalso
        have hl : pos l s < l.length := by simp at hi; omega
        have h3 : l[pos l s]? = some l[pos l s] := List.getElem?_eq_getElem hl
        have h4 : l[pos l s + i]? = some (s, n) := by rw [List.getElem?_eq_some_iff]; exact ⟨by simp at hi; omega, by rw [List.getElem_drop] at he; exact he⟩
        have h5 := h.get (by omega : pos l s < pos l s + i) h3 h4
        refine h2 _ ?_ h5
        rw [List.drop_eq_getElem_cons hl]
        exact List.mem_cons_self
  refine ⟨?_, key⟩
  cases e : getE l s with
  | some n =>
    have := key n e
    obtain ⟨hl, he⟩ := List.getElem?_eq_some_iff.1 this
    simp [hl, he]
  | none =>
    have hn := getE_none.1 e
    cases e2 : l[pos l s]? with
    | none => simp
    | some x =>
      have := hn x (List.mem_of_getElem? e2)
      simp [this]
theorem putE_mem {l : List Ent} {s : ByteArray} {n : Int} {e : Ent} : e ∈ putE l s n ↔ e = (s, n) ∨ e ∈ l := by
  have : e ∈ l ↔ e ∈ l.take (pos l s) ∨ e ∈ l.drop (pos l s) := by rw [← List.mem_append, List.take_append_drop]
  simp only [putE, List.mem_append, List.mem_cons, this]
  constructor
  · rintro (h | h | h)
    · exact .inr (.inl h)
    · exact .inl h
    · exact .inr (.inr h)
  · rintro (h | h | h)
    · exact .inr (.inl h)
    · exact .inl h
    · exact .inr (.inr h)
theorem putE_count (l : List Ent) (s : ByteArray) (n : Int) (q : Ent → Bool) : (putE l s n).countP q = l.countP q + if q (s, n) then 1 else 0 := by
  conv => rhs; rw [← List.take_append_drop (pos l s) l]
  simp only [putE, List.countP_append, List.countP_cons]
  omega
theorem putE_length (l : List Ent) (s : ByteArray) (n : Int) : (putE l s n).length = l.length + 1 := by
  have := pos_le l s
  simp [putE]
  omega
theorem Srt.put {l : List Ent} (h : Srt l) {s : ByteArray} (hs : getE l s = none) (n : Int) : Srt (putE l s n) := by
  obtain ⟨h1, h2⟩ := h.pos_split s
  have hn := getE_none.1 hs
  have hsp : Srt (l.take (pos l s) ++ l.drop (pos l s)) := by rw [List.take_append_drop]; exact h
  obtain ⟨p1, p2, p3⟩ := List.pairwise_append.1 hsp
  refine List.pairwise_append.2 ⟨p1, List.pairwise_cons.2 ⟨fun b hb => ?_, p2⟩, fun a ha b hb => ?_⟩
  · have g1 := h2 b hb
    have g2 : cmpS b.1 s ≠ 0 := fun e => hn b (List.mem_of_mem_drop hb) (cmpS_eq e)
    exact cmpS_flip.2 (show 0 < cmpS b.1 s by omega)
  · rcases List.mem_cons.1 hb with rfl | hb
    · exact h1 a ha
    · exact p3 a ha b hb
theorem delE_split {l : List Ent} (h : Srt l) {s : ByteArray} {n : Int} (hn : getE l s = some n) : l = l.take (pos l s) ++ (s, n) :: l.drop (pos l s + 1) := by
  have h1 := (h.at_pos s).2 n hn
  obtain ⟨hl, he⟩ := List.getElem?_eq_some_iff.1 h1
  conv => lhs; rw [← List.take_append_drop (pos l s) l, List.drop_eq_getElem_cons hl, he]
theorem delE_count {l : List Ent} (h : Srt l) {s : ByteArray} {n : Int} (hn : getE l s = some n) (q : Ent → Bool) : (delE l s).countP q + (if q (s, n) then 1 else 0) = l.countP q := by
  conv => rhs; rw [delE_split h hn]
  simp only [delE, List.countP_append, List.countP_cons]
  omega
theorem delE_length {l : List Ent} (h : Srt l) {s : ByteArray} {n : Int} (hn : getE l s = some n) : (delE l s).length + 1 = l.length := by
  conv => rhs; rw [delE_split h hn]
  simp only [delE, List.length_append, List.length_cons]
  omega
theorem Srt.del {l : List Ent} (h : Srt l) (s : ByteArray) : Srt (delE l s) := by
  refine List.Pairwise.sublist ?_ h
  conv => rhs; rw [← List.take_append_drop (pos l s) l]
  exact List.Sublist.append (List.Sublist.refl _) (List.drop_sublist_drop_left _ (by omega))
theorem delE_mem {l : List Ent} (h : Srt l) {s : ByteArray} {n : Int} (hn : getE l s = some n) {e : Ent} : e ∈ delE l s ↔ e ∈ l ∧ e.1 ≠ s := by
  have hsp := delE_split h hn
  have hm : ∀ e, e ∈ l ↔ e ∈ l.take (pos l s) ∨ e = (s, n) ∨ e ∈ l.drop (pos l s + 1) := fun e => by
    conv => lhs; rw [hsp]
    rw [List.mem_append, List.mem_cons]
  have hS : Srt (l.take (pos l s) ++ (s, n) :: l.drop (pos l s + 1)) := by rw [← hsp]; exact h
  obtain ⟨p1, p2, p3⟩ := List.pairwise_append.1 hS
  have p4 := (List.pairwise_cons.1 p2).1
  simp only [delE, List.mem_append, hm]
  constructor
  · rintro (he | he)
    · exact ⟨.inl he, cmpS_ne (p3 e he (s, n) List.mem_cons_self)⟩
    · exact ⟨.inr (.inr he), fun e' => cmpS_ne (p4 e he) e'.symm⟩
  · rintro ⟨he | rfl | he, hne⟩
    · exact .inl he
    · exact absurd rfl hne
    · exact .inr he
theorem putE_get {l : List Ent} (h : Srt l) {s : ByteArray} (hs : getE l s = none) (n : Int) (s' : ByteArray) : getE (putE l s n) s' = if s' = s then some n else getE l s' := by
  have hp := h.put hs n
  by_cases e : s' = s
  · rw [if_pos e, hp.getE_mem, putE_mem, e]
    exact .inl rfl
  · rw [if_neg e]
    cases e2 : getE l s' with
    | some m =>
      rw [hp.getE_mem, putE_mem]
      exact .inr (getE_some e2)
    | none =>
      rw [getE_none]
      intro x hx
      rcases putE_mem.1 hx with rfl | hx
      · exact fun h' => e h'.symm
      · exact getE_none.1 e2 x hx
theorem delE_get {l : List Ent} (h : Srt l) {s : ByteArray} {n : Int} (hn : getE l s = some n) (s' : ByteArray) : getE (delE l s) s' = if s' = s then none else getE l s' := by
  have hp := h.del s
  by_cases e : s' = s
  · rw [if_pos e, getE_none]
    intro x hx
    rw [e]
    exact ((delE_mem h hn).1 hx).2
  · rw [if_neg e]
    cases e2 : getE l s' with
    | some m =>
      rw [hp.getE_mem, delE_mem h hn]
      exact ⟨getE_some e2, e⟩
    | none =>
      rw [getE_none]
      intro x hx
      exact getE_none.1 e2 x ((delE_mem h hn).1 hx).1
end Go.Proofs.Ytlngeaacjbdmhaa
