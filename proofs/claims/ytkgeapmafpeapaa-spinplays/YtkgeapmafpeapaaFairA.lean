/-
  Holders that a law lays: how they begin; what the laws over them share.
-/
import Derived.Test.YtkgeapmafpeapaaHolders
namespace Go.Proofs.Ytkgeapmafpeapaa
open Go.RowKit

theorem machs_get {js : List Jb} {i : Nat} {M : Mach} (h : (machs js)[i]? = some M) : ∃ j, js[i]? = some j ∧ M = j.mach i := by
  simp [machs] at h
  obtain ⟨j, hj, rfl⟩ := h
  exact ⟨j, hj, rfl⟩
theorem machs_length (js : List Jb) : (machs js).length = js.length := by simp [machs]
theorem nOpen_machs (js : List Jb) : nOpen (machs js) = js.length := by
  unfold nOpen
  rw [List.countP_eq_length.2, machs_length]
  intro M hM
  obtain ⟨i, hi⟩ := List.mem_iff_getElem?.1 hM
  obtain ⟨j, _, rfl⟩ := machs_get hi
  rfl
theorem HInv.start (a W n : Nat) (ws : List Int) (h0 : ws.getD a 0 = 0) (hl : a < ws.length) : HInv a W (machs (List.replicate n ⟨1, a, W, 0, 0⟩), ws) := by
  refine ⟨?_, .inl h0, hl⟩
  intro i M hM
  obtain ⟨j, hj, rfl⟩ := machs_get hM
  rw [List.getElem?_replicate] at hj
  split at hj
  · cases hj
    refine ⟨rfl, by simp [Jb.mach], rfl, rfl, fun _ => .inl ⟨rfl, by rw [h0]; omega⟩⟩
  · cases hj

theorem pick_at (r b c q n i : Nat) (ws : List Int) (st : Int) (ms : List Mach) (w : World) (hR : Run w r b c q n ws st ms) (hi : i ≤ 1000000) :
    Calls Try.prog 13 #[.pointer (some ⟨r, 0, none⟩), .int .i64 (i : Int)] w fun e w' => e = .returned (.tuple #[.int .i64 (pk ms i : Nat), .bool (!(opn ms).isEmpty)]) ∧ Below w.heap.size w w' := by
  have h := pick_any r b c q n ws st i ms w hR (by omega) (by omega)
  have e : picked ms i = pk ms i := by
    unfold picked pk pickAt opn
    rw [if_neg (by omega)]
    rfl
  rw [e] at h
  exact h

theorem new_goodL (b c n l : Nat) (ws : List Int) (st kk aa oo vv : Int) (dd : Bool) (js : List Jb) (hjl : js.length = l) (pa : Option Addr) (cap : Nat) (w : World) (hM : Mem w b c n ws st kk aa oo vv dd) (hJ : JobsAt w pa js) (hfit : ∀ (k : Nat) (j : Jb), js[k]? = some j → j.fit n) (h8 : l ≤ 8) :
    Calls Try.prog 9 #[.pointer (some ⟨b, 0, none⟩), .slice pa l cap] w fun e w' => ∃ r q, e = .returned (.tuple #[.pointer (some ⟨r, 0, none⟩), .int .i64 0]) ∧ w.heap.size ≤ r ∧ w.heap.size ≤ q ∧ Run w' r b c q n ws st (machs js) ∧ Below w.heap.size w w' := by
  subst hjl
  exact new_good b c n ws st kk aa oo vv dd js pa cap w hM hJ (by omega) hfit h8
theorem JobsAt.of_ownsL {W : World} {base l : Nat} {v : Value} {js : List Jb} (hl : js.length = l) (h : W.ownsRow base 30 5 v l (rowsOf Jb.row js)) : ∃ pa cap, v = .slice pa l cap ∧ JobsAt W pa js := by
  subst hl
  exact JobsAt.of_owns h

theorem all_anyL (r b c q n l : Nat) (ws : List Int) (st : Int) (ms : List Mach) (hl : ms.length = l) (w : World) (hR : Run w r b c q n ws st ms) :
    Calls Try.prog 12 #[.pointer (some ⟨r, 0, none⟩)] w fun e w' => e = .returned (.slice (some ⟨w.heap.size, 0, none⟩) l l) ∧
      w'.heap[w.heap.size]? = some (.cells (rowsOf St.row (ms.map Mach.st)).toArray 33) ∧ Below w.heap.size w w' := by
  subst hl
  exact all_any r b c q n ws st ms w hR
theorem st_cell {W : World} {g : Nat} {ms : List Mach} (h : W.heap[g]? = some (.cells (rowsOf St.row (ms.map Mach.st)).toArray 33)) {i : Nat} {M : Mach} (hi : ms[i]? = some M) :
    W.cell? ⟨g, i * 4, none⟩ = some (.bool M.done) ∧ W.cell? ⟨g, i * 4 + 1, none⟩ = some (.int .i64 M.sA) ∧ W.cell? ⟨g, i * 4 + 2, none⟩ = some (.int .i64 M.sB) := by
  have hs : (ms.map Mach.st)[i]? = some M.st := by simp [hi]
  exact ⟨rows_cell St.row_length h hs 0 (by omega), rows_cell St.row_length h hs 1 (by omega), rows_cell St.row_length h hs 2 (by omega)⟩
theorem all_done {ms : List Mach} (h : opn ms = []) {i : Nat} {M : Mach} (hi : ms[i]? = some M) : M.done = true := by
  cases hd : M.done
  · have := mem_opn.2 ⟨M, hi, hd⟩; rw [h] at this; simp at this
  · rfl

theorem fair_step {W : Nat} {S : State} (h : HInv 1 W S) {k : Nat} {M : Mach} (hk : S.1[k]? = some M) (hd : M.done = false) (h0 : S.2.getD 0 0 = 0) :
    (stepAt S.1 S.2 k).2.getD 0 0 = 0 ∧ ((S.2.getD 1 0 = 0 ∧ (stepAt S.1 S.2 k).2.getD 1 0 ≠ 0 ∧ nOpen (stepAt S.1 S.2 k).1 = nOpen S.1) ∨
      (S.2.getD 1 0 ≠ 0 ∧ ((nOpen (stepAt S.1 S.2 k).1 + 1 = nOpen S.1 ∧ (stepAt S.1 S.2 k).2.getD 1 0 = 0) ∨ (nOpen (stepAt S.1 S.2 k).1 = nOpen S.1 ∧ (stepAt S.1 S.2 k).2.getD 1 0 ≠ 0)))) := by
  cases h.cases hk hd using HStep.el with
  | take hL e =>
    rw [e]
    refine ⟨by rw [getD_set_ne _ _ _ _ (by omega)]; exact h0, .inl ⟨hL, by rw [getD_set_self _ _ _ h.la]; omega, ?_⟩⟩
    have e1 := nOpen_set (N := { M with next := 3, left := (W : Int) }) hk hd
    have e0 : ({ M with next := 3, left := (W : Int) } : Mach).done = false := hd
    rw [if_neg (by rw [e0]; simp)] at e1
    exact e1
  | wait h1 hL e =>
    rw [e]
    have e1 := nOpen_set (N := M.again) hk hd
    have e0 : M.again.done = false := hd
    rw [if_neg (by rw [e0]; simp)] at e1
    exact ⟨h0, .inr ⟨h1, .inr ⟨e1, h1⟩⟩⟩
  | toil hL hn hl e =>
    rw [e]
    have e1 := nOpen_set (N := M.toil) hk hd
    have e0 : M.toil.done = false := hd
    rw [if_neg (by rw [e0]; simp)] at e1
    have h1 : S.2.getD 1 0 ≠ 0 := by omega
    exact ⟨h0, .inr ⟨h1, .inr ⟨e1, h1⟩⟩⟩
  | free hL hn hl e =>
    rw [e]
    have e1 := nOpen_set (N := { M with next := 5, done := true }) hk hd
    rw [if_pos rfl] at e1
    exact ⟨by rw [getD_set_ne _ _ _ _ (by omega)]; exact h0, .inr ⟨by omega, .inl ⟨e1, getD_set_self _ _ _ h.la⟩⟩⟩

/-- The append of one job. -/
theorem info30 : (Try.prog.info? 30).map (fun i => (i.zero, i.size, i.bytes)) = some (some (.agg #[.int .i64 0, .int .i64 0, .int .i64 0, .int .i64 0, .int .i64 0]), 5, 40) := by kernel_rfl
theorem rows_snoc (js : List Jb) (j : Jb) : rowsOf Jb.row (js ++ [j]) = rowsOf Jb.row js ++ j.row := by simp [rowsOf]

theorem word_cell {W : World} {y : Nat} {ws : List Int} (h : W.heap[y]? = some (.cells (ws.map (Value.int .i64)).toArray 2)) (i : Nat) (hi : i < ws.length) : W.cell? ⟨y, i, none⟩ = some (.int .i64 (ws.getD i 0)) := by
  rw [cell_of h]; simp [hi]
end Go.Proofs.Ytkgeapmafpeapaa
