/-
  The reader: take, number, text.
-/
import Derived.Test.YtcopjhidijhlaaaCEnc
import Derived.Sort.AtCall
import Derived.Sort.Walk0
import Derived.Laws.Cover1
namespace Go.Proofs.Ytcopjhidijhlaaa.Cl
open Go.RowKit
attribute [local go_sem ↓] Go.wp_at_zero Go.wp_at_succ

/-- A reader in block r: what is left of bytes that lie below B. -/
structure Rd (W : World) (B r : Nat) (a : Option Addr) (cap : Nat) (l : List UInt8) (cut : Bool) : Prop where
  b : W.heap[r]? = some (.cells #[.slice a l.length cap, .bool cut] 85)
  by' : By W B a l
  hB : B ≤ r
  hc : l.length ≤ cap
  hm : cap ≤ maxLen
  hn : a = none → cap = 0
/-- What a call leaves that turns the block r alone. -/
abbrev Gr (r : Nat) (W W' : World) : Prop := W.grownBy W' (some r)
theorem Gr.trans {r : Nat} {u v w : World} (h : Gr r u v) (g : Gr r v w) : Gr r u w :=
  ⟨g.os.trans h.os, g.tape.trans h.tape, g.output.trans h.output, Nat.le_trans h.size g.size, fun k hk hr => (g.block k (Nat.lt_of_lt_of_le hk h.size) hr).trans (h.block k hk hr)⟩
theorem Gr.refl (r : Nat) (w : World) : Gr r w w := ⟨rfl, rfl, rfl, Nat.le_refl _, fun _ _ _ => rfl⟩
theorem Gr.set (r i : Nat) (w : World) (v : Value) : Gr r w (w.setCell ⟨r, i, none⟩ v) :=
  ⟨rfl, rfl, rfl, by simp [World.setCell], fun k _ hr => Below.heap_setCell _ _ _ _ (fun e => hr (by rw [e]))⟩
theorem Gr.below {r B : Nat} {u w : World} (h : Gr r u w) (hr : B ≤ r) (hu : B ≤ u.heap.size) : Below B u w := ⟨h.os, h.tape, h.output, h.size, fun k hk => h.block k (by omega) (by simp; omega)⟩
theorem Gr.keep {r k : Nat} {u w : World} {o : Obj} (h : Gr r u w) (hk : u.heap[k]? = some o) (hne : k ≠ r) : w.heap[k]? = some o := (h.block k (lt_of_heap hk) (by simpa using hne)).trans hk

def tkn (s : Nat) (l : List UInt8) : List UInt8 := if l.length < s then [] else l.take s
def lft (s : Nat) (l : List UInt8) : List UInt8 := if l.length < s then [] else l.drop s
def ctt (s : Nat) (l : List UInt8) (c : Bool) : Bool := if l.length < s then true else c

set_option maxRecDepth 100000 in
set_option maxHeartbeats 1000000 in
theorem take_cut (B r : Nat) (a : Option Addr) (cap : Nat) (l : List UInt8) (cut : Bool) (s : Nat) (hs : l.length < s) (hs2 : s ≤ 100000) (W : World) (h : Rd W B r a cap l cut) :
    Calls Try.prog 50 #[Pt r 0, I s] W fun e W' => e = .returned (.slice none 0 0) ∧ Rd W' B r none 0 [] true ∧ Gr r W W' := by
  have c0 : W.cell? ⟨r, 0, none⟩ = some (.slice a l.length cap) := by rw [cell_of h.b]; rfl
  have c1 : W.cell? ⟨r, 1, none⟩ = some (.bool cut) := by rw [cell_of h.b]; rfl
  have q0 := heap_set h.b 0 (.slice none 0 0)
  have c2 : (W.setCell ⟨r, 0, none⟩ (.slice none 0 0)).cell? ⟨r, 1, none⟩ = some (.bool cut) := by rw [cell_of q0]; rfl
  have f0 : W.frozen? ⟨r, 0, none⟩ = false := frozen_of h.b 0
  have f1 : (W.setCell ⟨r, 0, none⟩ (.slice none 0 0)).frozen? ⟨r, 1, none⟩ = false := frozen_of q0 1
  have q1 := heap_set q0 1 (.bool true)
  have HG := hide ((Gr.set r 0 W (.slice none 0 0)).trans (Gr.set r 1 _ (.bool true)))
  have HR := hide (show Rd ((W.setCell ⟨r, 0, none⟩ (.slice none 0 0)).setCell ⟨r, 1, none⟩ (.bool true)) B r none 0 [] true from ⟨by simpa using q1, By.nil _ _ _, h.hB, Nat.zero_le _, Nat.zero_le _, fun _ => rfl⟩)
  have j1 : (l.length : Int) < (s : Int) := by omega
  have j2 : (0 : Int) ≤ (s : Int) := by omega
  generalize l.length = n at *
  clear h q0 q1
  go_enter Try.func50, Try.ntmps50
  go_wp2_with fail
  go_ret
  exact ⟨rfl, unhide HR, unhide HG⟩
set_option maxRecDepth 100000 in
set_option maxHeartbeats 1000000 in
theorem take_ok (B r : Nat) (a : Option Addr) (cap : Nat) (l : List UInt8) (cut : Bool) (s : Nat) (hs : s ≤ l.length) (W : World) (h : Rd W B r a cap l cut) :
    Calls Try.prog 50 #[Pt r 0, I s] W fun e W' => e = .returned (.slice a s cap) ∧ By W' B a (l.take s) ∧ (∃ a' cap', Rd W' B r a' cap' (l.drop s) cut) ∧ Gr r W W' := by
  have hm := h.hm
  have hmx : maxLen ≤ 9223372036854775807 := by decide
  have hcc := h.hc
  cases a with
  | none =>
    have hc0 := h.hn rfl
    obtain rfl : l = [] := List.eq_nil_of_length_eq_zero (by omega)
    obtain rfl : s = 0 := by simpa using hs
    subst hc0
    have c0 : W.cell? ⟨r, 0, none⟩ = some (.slice none 0 0) := by rw [cell_of h.b]; rfl
    have f0 : W.frozen? ⟨r, 0, none⟩ = false := frozen_of h.b 0
    have q0 := heap_set h.b 0 (.slice none 0 0)
    have HR := hide (show Rd (W.setCell ⟨r, 0, none⟩ (.slice none 0 0)) B r none 0 [] cut from ⟨by simpa using q0, By.nil _ _ _, h.hB, Nat.zero_le _, Nat.zero_le _, fun _ => rfl⟩)
    clear h q0
    go_enter Try.func50, Try.ntmps50
    go_wp2_with fail
    go_ret
    exact ⟨rfl, By.nil _ _ _, ⟨none, 0, unhide HR⟩, Gr.set _ _ _ _⟩
  | some ad =>
    have c0 : W.cell? ⟨r, 0, none⟩ = some (.slice (some ad) l.length cap) := by rw [cell_of h.b]; rfl
    have f0 : W.frozen? ⟨r, 0, none⟩ = false := frozen_of h.b 0
    cases s with
    | zero =>
      have q0 := heap_set h.b 0 (.slice (some ad) l.length cap)
      have HR := hide (show Rd (W.setCell ⟨r, 0, none⟩ (.slice (some ad) l.length cap)) B r (some ad) cap l cut from ⟨by simpa using q0, h.by'.below ((Gr.set r 0 W _).below h.hB (by have := lt_of_heap h.b; have := h.hB; omega)), h.hB, h.hc, h.hm, h.hn⟩)
      have j1 : ¬ (l.length : Int) < ((0 : Nat) : Int) := by omega
      have j3 : ((0 : Nat) : Int) ≤ (cap : Int) := by omega
      have j4 : ((0 : Nat) : Int) ≤ (l.length : Int) := by omega
      clear h q0
      generalize hn : l.length = n at *
      replace hn := hide hn
      by_cases hc : cap = 0
      · subst hc
        obtain rfl : n = 0 := by omega
        go_enter Try.func50, Try.ntmps50
        go_wp2_with fail
        go_ret
        exact ⟨rfl, By.nil _ _ _, ⟨some ad, 0, unhide HR⟩, Gr.set _ _ _ _⟩
      · have hc2 : ¬ cap - 0 = 0 := by omega
        go_enter Try.func50, Try.ntmps50
        go_wp2_with fail
        go_ret
        exact ⟨rfl, By.nil _ _ _, ⟨some ad, cap, unhide HR⟩, Gr.set _ _ _ _⟩
    | succ s =>
      obtain ⟨x, hx⟩ : ∃ x, l[0]? = some x := ⟨_, List.getElem?_eq_getElem (by omega)⟩
      obtain ⟨b, off, e1, -⟩ := h.by' 0 x hx
      simp at e1
      subst e1
      have j1 : ¬ (l.length : Int) < ((s + 1 : Nat) : Int) := by omega
      have j2 : (0 : Int) ≤ ((s + 1 : Nat) : Int) := by omega
      have j3 : ((s + 1 : Nat) : Int) ≤ (cap : Int) := by omega
      have j4 : ((s + 1 : Nat) : Int) ≤ (l.length : Int) := by omega
      have HH := hide h
      have hle : B ≤ W.heap.size := by have := lt_of_heap h.b; have := h.hB; omega
      have BT : ∀ W', Below B W W' → By W' B (some ⟨b, off, none⟩) (l.take (s + 1)) := fun W' g k c hk => by
        rw [List.getElem?_take] at hk
        split at hk
        · exact (h.by'.below g) k c hk
        · cases hk
      have BD : ∀ W', Below B W W' → By W' B (some ⟨b, off + (s + 1), none⟩) (l.drop (s + 1)) := fun W' g k c hk => by
        rw [List.getElem?_drop] at hk
        obtain ⟨b', o', e1, e2, e3⟩ := (h.by'.below g) _ c hk
        simp at e1
        obtain ⟨rfl, rfl⟩ := e1
        exact ⟨b, _, rfl, e2, by rw [Nat.add_assoc]; exact e3⟩
      have q0 := fun v => heap_set h.b 0 v
      have HT := hide BT
      have HD := hide BD
      have HQ := hide q0
      clear h hx BT BD q0
      generalize hS : s + 1 = t at *
      generalize hn : l.length = n at *
      replace hS := hide hS
      replace hn := hide hn
      by_cases hc : cap = t
      · subst hc
        obtain rfl : n = cap := by omega
        go_enter Try.func50, Try.ntmps50
        go_wp2_with fail
        go_ret
        have hd : l.drop n = [] := List.drop_eq_nil_of_le (by have := unhide hn; omega)
        refine ⟨rfl, unhide HT _ ((Gr.set r 0 W _).below (unhide HH).hB hle), ⟨some ⟨b, off, none⟩, 0, ?_⟩, Gr.set _ _ _ _⟩
        rw [hd]
        exact ⟨by simpa using unhide HQ _, By.nil _ _ _, (unhide HH).hB, by simp, by unfold maxLen; omega, fun _ => rfl⟩
      · go_enter Try.func50, Try.ntmps50
        go_wp2_with fail
        go_ret
        refine ⟨rfl, unhide HT _ ((Gr.set r 0 W _).below (unhide HH).hB hle), ⟨some ⟨b, off + t, none⟩, cap - t, ?_⟩, Gr.set _ _ _ _⟩
        exact ⟨by simpa [unhide hn] using unhide HQ _, unhide HD _ ((Gr.set r 0 W _).below (unhide HH).hB hle), (unhide HH).hB, by simp [unhide hn]; omega, by unfold maxLen at *; omega, fun e => by cases e⟩
/-- take. -/
theorem take_any (B r : Nat) (a : Option Addr) (cap : Nat) (l : List UInt8) (cut : Bool) (s : Nat) (hs2 : s ≤ 100000) (W : World) (h : Rd W B r a cap l cut) :
    Calls Try.prog 50 #[Pt r 0, I s] W fun e W' => ∃ a1 c1 a2 c2 n, e = .returned (.slice a1 n c1) ∧ n = (tkn s l).length ∧ By W' B a1 (tkn s l) ∧ Rd W' B r a2 c2 (lft s l) (ctt s l cut) ∧ Gr r W W' := by
  by_cases hs : l.length < s
  · unfold tkn lft ctt
    simp only [hs, if_true]
    refine (take_cut B r a cap l cut s hs hs2 W h).mono ?_
    rintro e W' ⟨rfl, h1, h2⟩
    exact ⟨none, 0, none, 0, 0, rfl, rfl, By.nil _ _ _, h1, h2⟩
  · unfold tkn lft ctt
    simp only [hs, if_false]
    refine (take_ok B r a cap l cut s (by omega) W h).mono ?_
    rintro e W' ⟨rfl, h1, ⟨a', c', h2⟩, h3⟩
    exact ⟨a, cap, a', c', s, rfl, by rw [List.length_take]; omega, h1, h2, h3⟩
end Go.Proofs.Ytcopjhidijhlaaa.Cl
