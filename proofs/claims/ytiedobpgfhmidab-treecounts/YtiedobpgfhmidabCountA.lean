/-
  No node is held, and every name is a, b or c.
-/
import Derived.Test.YtiedobpgfhmidabApiB
import Derived.Test.YtiedobpgfhmidabInA
namespace Go.Proofs.Ytiedobpgfhmidab
open Go.RowKit Go.Maps

def Qn (x : Nd) : Prop := x.holds = 0 ∧ ∀ e ∈ x.ins, Abc e.1
def Qt (T : Tr) : Prop := ∀ k x, T.nd k = some x → Qn x
section
variable {T : Tr}
theorem Qt.set (h : Qt T) (n : Int) (o : Option Nd) (ho : ∀ x, o = some x → Qn x) : Qt (T.set n o) := fun k x hx => by
  by_cases e : k = n
  · subst e; rw [Tr.set_same] at hx; exact ho x hx
  · rw [Tr.set_other _ _ e] at hx; exact h k x hx
theorem Qt.give (h : Qt T) (dir : Int) {s : ByteArray} (hs : Abc s) (n : Int) : Qt (T.give dir s n) := by
  unfold Tr.give
  split
  · rename_i d x hd hx
    refine (h.set dir _ ?_).set n _ ?_
    · rintro y ⟨⟩
      refine ⟨(h dir d hd).1, fun e he => ?_⟩
      rcases putE_mem.1 he with rfl | he
      · exact hs
      · exact (h dir d hd).2 e he
    · rintro y ⟨⟩
      exact ⟨(h n x hx).1, (h n x hx).2⟩
  · exact h
theorem Qt.less (h : Qt T) (n : Int) : Qt (T.less n) := by
  unfold Tr.less
  split
  · rename_i x hx
    refine h.set n _ ?_
    rintro y ⟨⟩
    exact ⟨(h n x hx).1, (h n x hx).2⟩
  · exact h
theorem Qt.leave (h : Qt T) (n : Int) : Qt (T.leave n) := by
  unfold Tr.leave
  split
  · split
    · exact h
    · exact fun k x hx => (h.set n none (by intro x hx; cases hx)) k x hx
  · exact h
theorem Qt.take (h : Qt T) (dir : Int) (s : ByteArray) : Qt (T.take dir s) := by
  unfold Tr.take
  split
  · rename_i d hd
    split
    · refine ((h.set dir _ ?_).less _).leave _
      rintro y ⟨⟩
      refine ⟨(h dir d hd).1, fun e he => (h dir d hd).2 e ?_⟩
      simp only [delE, List.mem_append] at he
      rcases he with he | he
      · exact List.mem_of_mem_take he
      · exact List.mem_of_mem_drop he
    · exact h
  · exact h
theorem Qt.add (h : Qt T) (kind mode uid gid : Int) (text : ByteArray) : Qt (T.add kind mode uid gid text) := fun k x hx => by
  simp only [Tr.add] at hx
  split at hx
  · cases hx; exact ⟨rfl, by intro e he; cases he⟩
  · exact h k x hx
theorem Qt.make (h : Qt T) (dir : Int) {s : ByteArray} (hs : Abc s) (kind mode uid gid : Int) (text : ByteArray) : Qt (T.make dir s kind mode uid gid text) := by
  unfold Tr.make
  split
  · exact (h.add kind mode uid gid text).give _ hs _
  · exact h
theorem Qt.join (h : Qt T) (dir : Int) {s : ByteArray} (hs : Abc s) (n : Int) : Qt (T.join dir s n) := by
  unfold Tr.join
  split
  · exact h.give _ hs _
  · exact h
theorem Qt.part (h : Qt T) (dir : Int) (s : ByteArray) : Qt (T.part dir s) := by
  unfold Tr.part
  split
  · exact h.take _ _
  · exact h
theorem Qt.move (h : Qt T) (l : List Int) (dir : Int) (s : ByteArray) (to : Int) {s2 : ByteArray} (hs : Abc s2) : Qt (T.move l dir s to s2) := by
  unfold Tr.move
  split
  · split
    · split
      · split
        · exact h
        · exact ((h.take _ _).give _ hs _).take _ _
      · exact (h.give _ hs _).take _ _
    · exact h
  · exact h
theorem Qt.new (nodes blocks : Nat) : Qt (Tr.new nodes blocks) := fun k x hx => by
  simp only [Tr.new] at hx
  split at hx
  · cases hx; exact ⟨rfl, by intro e he; cases he⟩
  · cases hx
end
/-- What lies while the calls are asked. -/
structure CT (w W : World) (t i : Nat) : Prop where
  t : ∃ T, Tq w.heap.size 4 W t T (1 + 2 * i) ∧ Qt T
  b : Below w.heap.size w W
section
variable {w W : World} {t i : Nat}
theorem wf6 {d : Nat} (h : d ≤ 5) : (kl (1 + (d : Int))).wf = true := wf_of (by omega)
theorem CT.below {W' : World} (h : CT w W t i) (g : Below W.heap.size W W') : CT w W' t i := by
  obtain ⟨⟨T, h1, h2⟩, h3⟩ := h
  exact ⟨⟨T, h1.below g, h2⟩, h3.trans (g.mono h3.size)⟩
theorem CT.mono (h : CT w W t i) {j : Nat} (hj : i ≤ j) : CT w W t j := by
  obtain ⟨⟨T, h1, h2⟩, h3⟩ := h
  exact ⟨⟨T, h1.mono (by omega), h2⟩, h3⟩
theorem CT.make (h : CT w W t i) (hi : i < 50) {d : Nat} (hd : d ≤ 5) {s : ByteArray} (hs : Abc s) (a kind mode uid gid f g : Int) : Calls Try.prog 7 #[P0 t, I (1 + (d : Int)), .string s, stV a kind mode uid gid f g, .string ⟨#[]⟩] W fun e W' => (∃ x y, e = .returned (.tuple #[I x, I y])) ∧ Hid (CT w W' t (i + 1)) := by
  obtain ⟨⟨T, h1, h2⟩, h3⟩ := h
  refine (make_Q h1 (by omega) (wf6 hd) s a kind mode uid gid f g ⟨#[]⟩ (by decide) _ _ _ rfl rfl rfl).mono ?_
  rintro e W' ⟨rfl, h4, h5⟩
  exact ⟨⟨_, _, rfl⟩, ⟨_, (unhide h4).mono (by omega), h2.make _ hs _ _ _ _ _⟩, (unhide h5).fst h3 (Nat.le_refl _)⟩
theorem CT.join (h : CT w W t i) (hi : i < 50) {d n : Nat} (hd : d ≤ 5) (hn : n ≤ 5) {s : ByteArray} (hs : Abc s) : Calls Try.prog 11 #[P0 t, I (1 + (d : Int)), .string s, I (1 + (n : Int))] W fun e W' => (∃ y, e = .returned (I y)) ∧ Hid (CT w W' t (i + 1)) := by
  obtain ⟨⟨T, h1, h2⟩, h3⟩ := h
  refine (join_Q h1 (by omega) (wf6 hd) (wf6 hn) s _ _ rfl rfl).mono ?_
  rintro e W' ⟨rfl, h4, h5⟩
  exact ⟨⟨_, rfl⟩, ⟨_, (unhide h4).mono (by omega), h2.join _ hs _⟩, (unhide h5).fst h3 (Nat.le_refl _)⟩
theorem CT.part (h : CT w W t i) (hi : i < 50) {d : Nat} (hd : d ≤ 5) (s : ByteArray) : Calls Try.prog 6 #[P0 t, I (1 + (d : Int)), .string s] W fun e W' => (∃ y, e = .returned (I y)) ∧ Hid (CT w W' t (i + 1)) := by
  obtain ⟨⟨T, h1, h2⟩, h3⟩ := h
  refine (part_Q h1 (by omega) (wf6 hd) s _ _ rfl rfl).mono ?_
  rintro e W' ⟨rfl, h4, h5⟩
  exact ⟨⟨_, rfl⟩, ⟨_, (unhide h4).mono (by omega), h2.part _ _⟩, (unhide h5).fst h3 (Nat.le_refl _)⟩
theorem CT.move (h : CT w W t i) (hi : i < 50) {d n : Nat} (hd : d ≤ 5) (hn : n ≤ 5) (s : ByteArray) {s2 : ByteArray} (hs : Abc s2) : Calls Try.prog 12 #[P0 t, I (1 + (d : Int)), .string s, I (1 + (n : Int)), .string s2] W fun e W' => (∃ y, e = .returned (I y)) ∧ Hid (CT w W' t (i + 1)) := by
  obtain ⟨⟨T, h1, h2⟩, h3⟩ := h
  obtain ⟨l, hl⟩ := h1.f.ab (1 + (n : Int))
  refine (move_Q h1 (by omega) (wf6 hd) (wf6 hn) s s2 hl _ _ rfl rfl).mono ?_
  rintro e W' ⟨rfl, h4, h5⟩
  exact ⟨⟨_, rfl⟩, ⟨_, (unhide h4).mono (by omega), h2.move _ _ _ _ hs⟩, (unhide h5).fst h3 (Nat.le_refl _)⟩
end
end Go.Proofs.Ytiedobpgfhmidab
