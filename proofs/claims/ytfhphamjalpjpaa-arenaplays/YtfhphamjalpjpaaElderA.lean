/-
  Slots taken and freed in turn, the eldest first: what a live handle's slot holds; a freed handle's slot is always beyond it. A slice of Booleans that came in.
-/
import Derived.Test.YtfhphamjalpjpaaOdd
import Derived.ProofKit
import Derived.Deep.Slices
namespace Go.Proofs.Ytfhphamjalpjpaa
open Go.ChangeShapes Go.WideShapes Go.ChangeAt Go.RowKit Go.Deep

/-- A live slot: its number, its generation, what it holds. -/
abbrev Lv := Nat × Int × Int
abbrev hlv (l : List Lv) : List Slot := l.map (fun x => ((x.1 : Int), x.2.1))
abbrev vals (l : List Lv) : List Value := l.map (fun x => Value.int .i64 x.2.2)
abbrev hdd (l : List (Nat × Int)) : List Slot := l.map (fun x => ((x.1 : Int), x.2))
structure El (n : Nat) (B : Int) (gs : List Slot) (q : List Nat) (lv : List Lv) (dd : List (Nat × Int)) : Prop where
  fit : Fit n B gs q
  len : lv.length + q.length = n
  lvOk : ∀ x ∈ lv, gs[x.1]? = some (x.2.1, x.2.2) ∧ x.2.1 % 2 = 1
  lnd : (lv.map (·.1)).Nodup
  ddOk : ∀ x ∈ dd, ∃ g v, gs[x.1]? = some (g, v) ∧ x.2 < g
theorem El.start (n : Nat) : El n 0 (List.replicate n (0, 0)) (List.range n) [] [] := ⟨Fit.start n, by simp, by simp, by simp, by simp⟩
theorem El.mono {n : Nat} {B B' : Int} {gs : List Slot} {q : List Nat} {lv : List Lv} {dd : List (Nat × Int)} (h : El n B gs q lv dd) (hB : B ≤ B') : El n B' gs q lv dd := ⟨h.fit.mono hB, h.len, h.lvOk, h.lnd, h.ddOk⟩
theorem El.take {n : Nat} {B : Int} {gs : List Slot} {q : List Nat} {lv : List Lv} {dd : List (Nat × Int)} {k : Nat} {g u v : Int} (h : El n B gs (k :: q) lv dd) (hk : gs[k]? = some (g, u)) : El n (B + 1) (gs.set k (g + 1, v)) q (lv ++ [(k, g + 1, v)]) dd := by
  obtain ⟨hf, ho⟩ := h.fit.take (v := v) hk
  have hb := h.fit.bd k g u hk
  have hkl := (List.getElem?_eq_some_iff.1 hk).1
  have hnot : ∀ x ∈ lv, k ≠ x.1 := by
    rintro x hx rfl
    have := h.lvOk x hx
    rw [hk] at this
    simp at this
    omega
  refine ⟨hf, by have := h.len; simp at *; omega, ?_, ?_, ?_⟩
  · intro x hx
    rcases List.mem_append.1 hx with hx | hx
    · rw [List.getElem?_set_ne (hnot x hx)]; exact h.lvOk x hx
    · simp at hx; subst hx
      exact ⟨by rw [List.getElem?_set_self hkl], by show (g + 1) % 2 = 1; omega⟩
  · rw [List.map_append]
    refine List.nodup_append.2 ⟨h.lnd, by simp, ?_⟩
    intro a ha b hb' e
    simp at hb'
    subst hb'
    obtain ⟨x, hx, rfl⟩ := List.mem_map.1 ha
    exact hnot x hx e.symm
  · intro x hx
    obtain ⟨g2, v2, e2, o2⟩ := h.ddOk x hx
    by_cases e : k = x.1
    · rw [← e] at e2 ⊢
      rw [hk] at e2; simp at e2
      exact ⟨g + 1, v, by rw [List.getElem?_set_self hkl], by omega⟩
    · exact ⟨g2, v2, by rw [List.getElem?_set_ne e]; exact e2, o2⟩
theorem El.free {n : Nat} {B : Int} {gs : List Slot} {q : List Nat} {lv : List Lv} {dd : List (Nat × Int)} {s : Nat} {g u : Int} (h : El n B gs q ((s, g, u) :: lv) dd) : El n (B + 1) (gs.set s (g + 1, 0)) (q ++ [s]) lv (dd ++ [(s, g)]) := by
  obtain ⟨hs, ho⟩ := h.lvOk (s, g, u) (by simp)
  simp only at hs ho
  obtain ⟨hf, -⟩ := h.fit.free (v := 0) hs ho
  have hsl := (List.getElem?_eq_some_iff.1 hs).1
  have hnd := h.lnd
  simp only [List.map_cons] at hnd
  obtain ⟨hn1, hn2⟩ := List.nodup_cons.1 hnd
  refine ⟨hf, by have := h.len; simp at *; omega, ?_, hn2, ?_⟩
  · intro x hx
    have hne : s ≠ x.1 := by rintro rfl; exact hn1 (List.mem_map.2 ⟨x, hx, rfl⟩)
    rw [List.getElem?_set_ne hne]
    exact h.lvOk x (by simp [hx])
  · intro x hx
    rcases List.mem_append.1 hx with hx | hx
    · obtain ⟨g2, v2, e2, o2⟩ := h.ddOk x hx
      by_cases e : s = x.1
      · rw [← e] at e2 ⊢
        rw [hs] at e2; simp at e2
        exact ⟨g + 1, 0, by rw [List.getElem?_set_self hsl], by omega⟩
      · exact ⟨g2, v2, by rw [List.getElem?_set_ne e]; exact e2, o2⟩
    · simp at hx; subst hx
      exact ⟨g + 1, 0, by rw [List.getElem?_set_self hsl], by show g < g + 1; omega⟩

def Bools (w : World) (a : Option Addr) (len : Nat) : Prop :=
  len ≤ maxLen ∧ ∀ i, i < len → ∃ (b off : Nat) (x : Bool), a = some ⟨b, off, none⟩ ∧ b < w.heap.size ∧ w.cell? ⟨b, off + i, none⟩ = some (.bool x)
theorem cells4 : Try.prog.cellsOf 4 = 1 := by kernel_rfl
theorem bools_of {H : Type} {enc : TypeId × Value → H} {w : World} {held : Bool} {fuel : Nat} {a : Option Addr} {len cap : Nat} {x : DataW H × List MemPlace}
    (h : DataW.trod enc Try.prog w 0 (fun _ => true) held fuel 59 [.slice a len cap] = some x) : Bools w a len := by
  rcases open_slice Try.underlying59 h with ⟨hcs, _⟩ | ⟨y, l, c, m, n, D, Pl, hcs, _, hl, hm, hmm, _, hx⟩
  · simp at hcs
    obtain ⟨rfl, rfl, rfl⟩ := hcs
    exact ⟨Nat.zero_le _, fun i hi => absurd hi (Nat.not_lt_zero _)⟩
  · simp at hcs
    obtain ⟨rfl, rfl, rfl⟩ := hcs
    simp at hmm
    subst hmm
    refine ⟨Nat.le_trans hl hm, fun i hi => ?_⟩
    have key : ∀ j, j ≤ i → ∃ x : Bool, w.cell? (y.add j) = some (.bool x) := by
      intro j hj
      obtain ⟨cs', h1, h2⟩ := hx j (by omega)
      rw [cells4] at h1
      obtain ⟨_, hlen, hcell⟩ := World.cells?_some h1
      obtain ⟨bx, e0, _⟩ := DataW.trod_bool Try.underlying4 h2
      subst e0
      have c0 := hcell 0 (by omega)
      rw [add_add] at c0
      exact ⟨bx, by simpa using c0⟩
    obtain ⟨x0, c0⟩ := key 0 (by omega)
    obtain ⟨xi, ci⟩ := key i (by omega)
    obtain ⟨b, off, sp⟩ := y
    have e : (⟨b, off, sp⟩ : Addr).add 0 = ⟨b, off, sp⟩ := rfl
    rw [e] at c0
    obtain rfl := spot_none c0
    rw [addr_add] at ci
    exact ⟨b, off, xi, rfl, cell_lt ci, ci⟩
theorem info2 : (Try.prog.info? 2).map (fun i => (i.zero, i.size, i.bytes)) = some (some (.int .i64 0), 1, 8) := by kernel_rfl
end Go.Proofs.Ytfhphamjalpjpaa
