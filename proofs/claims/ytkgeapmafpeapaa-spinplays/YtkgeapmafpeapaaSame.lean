/-
  Same answers true of two slices that hold the same numbers, and turns nothing; the document's Do at arguments that are plain integers.
-/
import Derived.Test.YtkgeapmafpeapaaRef
namespace Go.Proofs.Ytkgeapmafpeapaa
open Go.RowKit
attribute [local go_sem ↓] Go.wp_at_zero Go.wp_at_succ

set_option maxHeartbeats 400000 in
theorem same_true (p q n : Nat) (ws : List Int) (w : World) (hn : n ≤ 64) (hl : ws.length = n) (hp : w.heap[p]? = some (.cells (ws.map (Value.int .i64)).toArray 2)) (hq : w.heap[q]? = some (.cells (ws.map (Value.int .i64)).toArray 2)) :
    Calls Try.prog 23 #[.slice (some ⟨p, 0, none⟩) n n, .slice (some ⟨q, 0, none⟩) n n] w fun e w' => e = .returned (.bool true) ∧ ∃ m, w' = w.drewN m := by
  have cp : ∀ j, j < n → w.cell? ⟨p, j, none⟩ = some (.int .i64 (ws.getD j 0)) := fun j hj => by rw [cell_of hp]; simp [hl, hj]
  have cq : ∀ j, j < n → w.cell? ⟨q, j, none⟩ = some (.int .i64 (ws.getD j 0)) := fun j hj => by rw [cell_of hq]; simp [hl, hj]
  have CP := hide cp
  have CQ := hide cq
  clear cp cq hp hq hl
  go_enter Try.func23, Try.ntmps23
  go_wp2
  go_loopw [5] (fun i wr => ∃ j : Nat, j ≤ n ∧ i = .int .i64 j ∧ ∃ m, wr = w.drewN m) (fun i _ => n - (intOf i).toNat)
  case atStart => exact ⟨0, by omega, rfl, 0, rfl⟩
  case round =>
    obtain ⟨j, hj, rfl, m, rfl⟩ := hrel
    by_cases hlt : j < n
    · have j0 : (0 : Int) ≤ (j : Int) := by omega
      have j1 : (j : Int) < (n : Int) := by omega
      have c1 := unhide CP j hlt
      have c2 := unhide CQ j hlt
      generalize ws.getD j 0 = z at *
      go_wp2
      go_quiet (fail)
      go_wp2
      go_roundw
      case rel => exact ⟨j + 1, by omega, by go_num, m + nq, by simp [World.drewN]⟩
      case measure => simp [intOf]; omega
    · go_wp2
      go_ret
      exact ⟨rfl, m, rfl⟩

/-- The faces and the document's Do, with what the cell holds named ahead. -/
theorem load_h (b c n a : Nat) (ws : List Int) (st k0 a0 o0 v0 : Int) (d0 : Bool) (w : World) (hM : Mem w b c n ws st k0 a0 o0 v0 d0) (ha : a < n) (s0 : 0 ≤ st) (s1 : st ≤ 1000000) (held : Int) (e1 : ws.getD a 0 = held) :
    Calls Try.prog 53 #[.pointer (some ⟨b, 0, none⟩), .int .i64 (a : Int)] w fun e w' => e = .returned (.tuple #[.int .i64 held, .int .i64 0]) ∧ Mem w' b c n ws (st + 1) 1 a held held true ∧ Frm b c w w' := by
  have h := load_yes b c n a ws st k0 a0 o0 v0 d0 w hM ha s0 s1
  rw [e1] at h
  exact h
theorem store_h (b c n a : Nat) (ws : List Int) (st k0 a0 o0 v0 : Int) (d0 : Bool) (v : Int) (w : World) (hM : Mem w b c n ws st k0 a0 o0 v0 d0) (ha : a < n) (s0 : 0 ≤ st) (s1 : st ≤ 1000000) (held : Int) (e1 : ws.getD a 0 = held) :
    Calls Try.prog 26 #[.pointer (some ⟨b, 0, none⟩), .int .i64 (a : Int), .int .i64 v] w fun e w' => e = .returned (.int .i64 0) ∧ Mem w' b c n (ws.set a v) (st + 1) 2 a held v true ∧ Frm b c w w' := by
  have h := store_yes b c n a ws st k0 a0 o0 v0 d0 v w hM ha s0 s1
  rw [e1] at h
  exact h
theorem swap_y (b c n a : Nat) (ws : List Int) (st k0 a0 o0 v0 : Int) (d0 : Bool) (old new : Int) (w : World) (hM : Mem w b c n ws st k0 a0 o0 v0 d0) (ha : a < n) (s0 : 0 ≤ st) (s1 : st ≤ 1000000) (held : Int) (e1 : ws.getD a 0 = held) (he : held = old) :
    Calls Try.prog 52 #[.pointer (some ⟨b, 0, none⟩), .int .i64 (a : Int), .int .i64 old, .int .i64 new] w fun e w' => e = .returned (.tuple #[.bool true, .int .i64 0]) ∧ Mem w' b c n (ws.set a new) (st + 1) 3 a held new true ∧ Frm b c w w' := by
  have h := swap_any b c n a ws st k0 a0 o0 v0 d0 old new w hM ha s0 s1
  have e3 : dnOf 3 old held = true := by simp [dnOf, he]
  have e2 : nwOf 3 old new held = new := by simp [nwOf, he]
  rw [e1, e2, e3] at h
  exact h
theorem swap_n (b c n a : Nat) (ws : List Int) (st k0 a0 o0 v0 : Int) (d0 : Bool) (old new : Int) (w : World) (hM : Mem w b c n ws st k0 a0 o0 v0 d0) (ha : a < n) (s0 : 0 ≤ st) (s1 : st ≤ 1000000) (held : Int) (e1 : ws.getD a 0 = held) (he : ¬ held = old) :
    Calls Try.prog 52 #[.pointer (some ⟨b, 0, none⟩), .int .i64 (a : Int), .int .i64 old, .int .i64 new] w fun e w' => e = .returned (.tuple #[.bool false, .int .i64 0]) ∧ Mem w' b c n ws (st + 1) 3 a held held false ∧ Frm b c w w' := by
  have h := swap_any b c n a ws st k0 a0 o0 v0 d0 old new w hM ha s0 s1
  have e3 : dnOf 3 old held = false := by simp [dnOf, he]
  have e2 : nwOf 3 old new held = held := by simp [nwOf, he]
  have e4 : ws.set a held = ws := by rw [← e1]; exact set_self ws a
  rw [e1, e2, e3, e4] at h
  exact h
theorem do1_h (b c n a : Nat) (ws : List Int) (st k0 a0 o0 v0 : Int) (d0 : Bool) (old new : Int) (w : World) (hM : RMem w b c n ws st k0 a0 o0 v0 d0) (ha : a < n) (s0 : 0 ≤ st) (s1 : st ≤ 1000000) (held : Int) (e1 : ws.getD a 0 = held) :
    Calls Try.prog 37 #[.pointer (some ⟨b, 0, none⟩), .int .i64 1, .int .i64 (a : Int), .int .i64 old, .int .i64 new] w fun e w' => e = .returned (.tuple #[.int .i64 held, .bool true, .int .i64 0]) ∧ RMem w' b c n ws (st + 1) 1 a held held true ∧ Frm b c w w' := by
  have h := do1 b c n a ws st k0 a0 o0 v0 d0 old new w hM ha s0 s1
  rw [e1] at h
  exact h
theorem do2_h (b c n a : Nat) (ws : List Int) (st k0 a0 o0 v0 : Int) (d0 : Bool) (old new : Int) (w : World) (hM : RMem w b c n ws st k0 a0 o0 v0 d0) (ha : a < n) (s0 : 0 ≤ st) (s1 : st ≤ 1000000) (held : Int) (e1 : ws.getD a 0 = held) :
    Calls Try.prog 37 #[.pointer (some ⟨b, 0, none⟩), .int .i64 2, .int .i64 (a : Int), .int .i64 old, .int .i64 new] w fun e w' => e = .returned (.tuple #[.int .i64 held, .bool true, .int .i64 0]) ∧ RMem w' b c n (ws.set a new) (st + 1) 2 a held new true ∧ Frm b c w w' := by
  have h := do2 b c n a ws st k0 a0 o0 v0 d0 old new w hM ha s0 s1
  rw [e1] at h
  exact h
theorem do3_y (b c n a : Nat) (ws : List Int) (st k0 a0 o0 v0 : Int) (d0 : Bool) (old new : Int) (w : World) (hM : RMem w b c n ws st k0 a0 o0 v0 d0) (ha : a < n) (s0 : 0 ≤ st) (s1 : st ≤ 1000000) (held : Int) (e1 : ws.getD a 0 = held) (he : held = old) :
    Calls Try.prog 37 #[.pointer (some ⟨b, 0, none⟩), .int .i64 3, .int .i64 (a : Int), .int .i64 old, .int .i64 new] w fun e w' => e = .returned (.tuple #[.int .i64 held, .bool true, .int .i64 0]) ∧ RMem w' b c n (ws.set a new) (st + 1) 3 a held new true ∧ Frm b c w w' := by
  have h := do3y b c n a ws st k0 a0 o0 v0 d0 old new w hM ha s0 s1 (by rw [e1]; simp [he])
  rw [e1] at h
  exact h
theorem do3_n (b c n a : Nat) (ws : List Int) (st k0 a0 o0 v0 : Int) (d0 : Bool) (old new : Int) (w : World) (hM : RMem w b c n ws st k0 a0 o0 v0 d0) (ha : a < n) (s0 : 0 ≤ st) (s1 : st ≤ 1000000) (held : Int) (e1 : ws.getD a 0 = held) (he : ¬ held = old) :
    Calls Try.prog 37 #[.pointer (some ⟨b, 0, none⟩), .int .i64 3, .int .i64 (a : Int), .int .i64 old, .int .i64 new] w fun e w' => e = .returned (.tuple #[.int .i64 held, .bool false, .int .i64 0]) ∧ RMem w' b c n ws (st + 1) 3 a held held false ∧ Frm b c w w' := by
  have h := do3n b c n a ws st k0 a0 o0 v0 d0 old new w hM ha s0 s1 (by rw [e1]; simp [he])
  rw [e1] at h
  exact h

end Go.Proofs.Ytkgeapmafpeapaa
