/-
  The contract of spin.New.
-/
import Derived.Test.YtkgeapmafpeapaaFits
namespace Go.Proofs.Ytkgeapmafpeapaa
open Go.RowKit
attribute [local go_sem ↓] Go.wp_at_zero Go.wp_at_succ

theorem put15 {W : World} {q k : Nat} {xs : List Mach} {Z : Mach} (h : W.heap[q]? = some (.cells (rowsOf Mach.row xs).toArray 76)) (hz : xs[k]? = some Z) (M : Mach) :
    ((((((((((((((((W.setCell ⟨q, k * 15 + 0, none⟩ (.int .i64 M.kind)).setCell ⟨q, k * 15 + 1, none⟩ (.int .i64 (M.at_ : Int))).setCell ⟨q, k * 15 + 2, none⟩ (.int .i64 M.work)).setCell ⟨q, k * 15 + 3, none⟩ (.int .i64 M.A)).setCell ⟨q, k * 15 + 4, none⟩ (.int .i64 M.B)).setCell ⟨q, k * 15 + 5, none⟩ (.int .i64 M.mark)).setCell ⟨q, k * 15 + 6, none⟩ (.bool M.done)).setCell ⟨q, k * 15 + 7, none⟩ (.int .i64 M.sA)).setCell ⟨q, k * 15 + 8, none⟩ (.int .i64 M.sB)).setCell ⟨q, k * 15 + 9, none⟩ (.int .i64 M.tries)).setCell ⟨q, k * 15 + 10, none⟩ (.int .i64 M.next)).setCell ⟨q, k * 15 + 11, none⟩ (.int .i64 M.left)).setCell ⟨q, k * 15 + 12, none⟩ (.int .i64 M.count)).setCell ⟨q, k * 15 + 13, none⟩ (.int .i64 M.a)).setCell ⟨q, k * 15 + 14, none⟩ (.int .i64 M.b))).heap[q]? = some (.cells (rowsOf Mach.row (xs.set k M)).toArray 76) := by
  have P := (rows_put Mach.row_length (rows_put Mach.row_length (rows_put Mach.row_length (rows_put Mach.row_length (rows_put Mach.row_length (rows_put Mach.row_length (rows_put Mach.row_length (rows_put Mach.row_length (rows_put Mach.row_length (rows_put Mach.row_length (rows_put Mach.row_length (rows_put Mach.row_length (rows_put Mach.row_length (rows_put Mach.row_length (rows_put Mach.row_length h hz 0 (by omega) (.int .i64 M.kind) ({ Z with kind := M.kind }) rfl) (get_set hz _) 1 (by omega) (.int .i64 (M.at_ : Int)) ({ Z with kind := M.kind, at_ := M.at_ }) rfl) (get_set (get_set hz _) _) 2 (by omega) (.int .i64 M.work) ({ Z with kind := M.kind, at_ := M.at_, work := M.work }) rfl) (get_set (get_set (get_set hz _) _) _) 3 (by omega) (.int .i64 M.A) ({ Z with kind := M.kind, at_ := M.at_, work := M.work, A := M.A }) rfl) (get_set (get_set (get_set (get_set hz _) _) _) _) 4 (by omega) (.int .i64 M.B) ({ Z with kind := M.kind, at_ := M.at_, work := M.work, A := M.A, B := M.B }) rfl) (get_set (get_set (get_set (get_set (get_set hz _) _) _) _) _) 5 (by omega) (.int .i64 M.mark) ({ Z with kind := M.kind, at_ := M.at_, work := M.work, A := M.A, B := M.B, mark := M.mark }) rfl) (get_set (get_set (get_set (get_set (get_set (get_set hz _) _) _) _) _) _) 6 (by omega) (.bool M.done) ({ Z with kind := M.kind, at_ := M.at_, work := M.work, A := M.A, B := M.B, mark := M.mark, done := M.done }) rfl) (get_set (get_set (get_set (get_set (get_set (get_set (get_set hz _) _) _) _) _) _) _) 7 (by omega) (.int .i64 M.sA) ({ Z with kind := M.kind, at_ := M.at_, work := M.work, A := M.A, B := M.B, mark := M.mark, done := M.done, sA := M.sA }) rfl) (get_set (get_set (get_set (get_set (get_set (get_set (get_set (get_set hz _) _) _) _) _) _) _) _) 8 (by omega) (.int .i64 M.sB) ({ Z with kind := M.kind, at_ := M.at_, work := M.work, A := M.A, B := M.B, mark := M.mark, done := M.done, sA := M.sA, sB := M.sB }) rfl) (get_set (get_set (get_set (get_set (get_set (get_set (get_set (get_set (get_set hz _) _) _) _) _) _) _) _) _) 9 (by omega) (.int .i64 M.tries) ({ Z with kind := M.kind, at_ := M.at_, work := M.work, A := M.A, B := M.B, mark := M.mark, done := M.done, sA := M.sA, sB := M.sB, tries := M.tries }) rfl) (get_set (get_set (get_set (get_set (get_set (get_set (get_set (get_set (get_set (get_set hz _) _) _) _) _) _) _) _) _) _) 10 (by omega) (.int .i64 M.next) ({ Z with kind := M.kind, at_ := M.at_, work := M.work, A := M.A, B := M.B, mark := M.mark, done := M.done, sA := M.sA, sB := M.sB, tries := M.tries, next := M.next }) rfl) (get_set (get_set (get_set (get_set (get_set (get_set (get_set (get_set (get_set (get_set (get_set hz _) _) _) _) _) _) _) _) _) _) _) 11 (by omega) (.int .i64 M.left) ({ Z with kind := M.kind, at_ := M.at_, work := M.work, A := M.A, B := M.B, mark := M.mark, done := M.done, sA := M.sA, sB := M.sB, tries := M.tries, next := M.next, left := M.left }) rfl) (get_set (get_set (get_set (get_set (get_set (get_set (get_set (get_set (get_set (get_set (get_set (get_set hz _) _) _) _) _) _) _) _) _) _) _) _) 12 (by omega) (.int .i64 M.count) ({ Z with kind := M.kind, at_ := M.at_, work := M.work, A := M.A, B := M.B, mark := M.mark, done := M.done, sA := M.sA, sB := M.sB, tries := M.tries, next := M.next, left := M.left, count := M.count }) rfl) (get_set (get_set (get_set (get_set (get_set (get_set (get_set (get_set (get_set (get_set (get_set (get_set (get_set hz _) _) _) _) _) _) _) _) _) _) _) _) _) 13 (by omega) (.int .i64 M.a) ({ Z with kind := M.kind, at_ := M.at_, work := M.work, A := M.A, B := M.B, mark := M.mark, done := M.done, sA := M.sA, sB := M.sB, tries := M.tries, next := M.next, left := M.left, count := M.count, a := M.a }) rfl) (get_set (get_set (get_set (get_set (get_set (get_set (get_set (get_set (get_set (get_set (get_set (get_set (get_set (get_set hz _) _) _) _) _) _) _) _) _) _) _) _) _) _) 14 (by omega) (.int .i64 M.b) (M) rfl)
  simp only [List.set_set] at P
  exact P

theorem below15 {B : Nat} {w W : World} {q k : Nat} (h : Below B w W) (hq : B ≤ q) (M : Mach) : Below B w ((((((((((((((((W.setCell ⟨q, k * 15 + 0, none⟩ (.int .i64 M.kind)).setCell ⟨q, k * 15 + 1, none⟩ (.int .i64 (M.at_ : Int))).setCell ⟨q, k * 15 + 2, none⟩ (.int .i64 M.work)).setCell ⟨q, k * 15 + 3, none⟩ (.int .i64 M.A)).setCell ⟨q, k * 15 + 4, none⟩ (.int .i64 M.B)).setCell ⟨q, k * 15 + 5, none⟩ (.int .i64 M.mark)).setCell ⟨q, k * 15 + 6, none⟩ (.bool M.done)).setCell ⟨q, k * 15 + 7, none⟩ (.int .i64 M.sA)).setCell ⟨q, k * 15 + 8, none⟩ (.int .i64 M.sB)).setCell ⟨q, k * 15 + 9, none⟩ (.int .i64 M.tries)).setCell ⟨q, k * 15 + 10, none⟩ (.int .i64 M.next)).setCell ⟨q, k * 15 + 11, none⟩ (.int .i64 M.left)).setCell ⟨q, k * 15 + 12, none⟩ (.int .i64 M.count)).setCell ⟨q, k * 15 + 13, none⟩ (.int .i64 M.a)).setCell ⟨q, k * 15 + 14, none⟩ (.int .i64 M.b))) := (((((((((((((((h.setCell (p := ⟨q, k * 15 + 0, none⟩) hq (.int .i64 M.kind)).setCell (p := ⟨q, k * 15 + 1, none⟩) hq (.int .i64 (M.at_ : Int))).setCell (p := ⟨q, k * 15 + 2, none⟩) hq (.int .i64 M.work)).setCell (p := ⟨q, k * 15 + 3, none⟩) hq (.int .i64 M.A)).setCell (p := ⟨q, k * 15 + 4, none⟩) hq (.int .i64 M.B)).setCell (p := ⟨q, k * 15 + 5, none⟩) hq (.int .i64 M.mark)).setCell (p := ⟨q, k * 15 + 6, none⟩) hq (.bool M.done)).setCell (p := ⟨q, k * 15 + 7, none⟩) hq (.int .i64 M.sA)).setCell (p := ⟨q, k * 15 + 8, none⟩) hq (.int .i64 M.sB)).setCell (p := ⟨q, k * 15 + 9, none⟩) hq (.int .i64 M.tries)).setCell (p := ⟨q, k * 15 + 10, none⟩) hq (.int .i64 M.next)).setCell (p := ⟨q, k * 15 + 11, none⟩) hq (.int .i64 M.left)).setCell (p := ⟨q, k * 15 + 12, none⟩) hq (.int .i64 M.count)).setCell (p := ⟨q, k * 15 + 13, none⟩) hq (.int .i64 M.a)).setCell (p := ⟨q, k * 15 + 14, none⟩) hq (.int .i64 M.b))


/-- A slice of jobs, wherever it lies. -/
def JobsAt (W : World) (pa : Option Addr) (js : List Jb) : Prop :=
  ∀ k j, js[k]? = some j → ∃ jb jo, pa = some ⟨jb, jo, none⟩ ∧ jb < W.heap.size ∧ W.cell? ⟨jb, jo + k * 5, none⟩ = some (.int .i64 j.kind) ∧ W.cell? ⟨jb, jo + k * 5 + 1, none⟩ = some (.int .i64 j.at_) ∧
    W.cell? ⟨jb, jo + k * 5 + 2, none⟩ = some (.int .i64 j.work) ∧ W.cell? ⟨jb, jo + k * 5 + 3, none⟩ = some (.int .i64 j.A) ∧ W.cell? ⟨jb, jo + k * 5 + 4, none⟩ = some (.int .i64 j.B)
theorem JobsAt.below {B : Nat} {W W' : World} {pa : Option Addr} {js : List Jb} (h : JobsAt W pa js) (g : Below B W W') (hB : W.heap.size ≤ B) : JobsAt W' pa js := by
  intro k j hj
  obtain ⟨jb, jo, e, hl, c0, c1, c2, c3, c4⟩ := h k j hj
  have z := g.size
  exact ⟨jb, jo, e, by omega, (g.cell (by show jb < B; omega)).trans c0, (g.cell (by show jb < B; omega)).trans c1, (g.cell (by show jb < B; omega)).trans c2, (g.cell (by show jb < B; omega)).trans c3, (g.cell (by show jb < B; omega)).trans c4⟩

set_option maxHeartbeats 400000 in
theorem new_nil (pa : Option Addr) (l cap : Nat) (w : World) :
    Calls Try.prog 9 #[.pointer none, .slice pa l cap] w fun e w' => e = .returned (.tuple #[.pointer none, .int .i64 1]) ∧ w' = w := by
  go_enter Try.func9, Try.ntmps9
  go_wp2_with fail
  go_ret2
  exact ⟨rfl, rfl⟩

/-- The machine that New makes of the job with number i. -/
def Jb.mach (j : Jb) (i : Nat) : Mach := ⟨j.kind, j.at_.toNat, j.work, j.A, j.B, (i : Int) + 1, false, 0, 0, 0, 0, 0, 0, 0, 0⟩
def machs (js : List Jb) : List Mach := js.mapIdx fun i j => j.mach i

set_option maxRecDepth 100000 in
set_option maxHeartbeats 1000000 in
theorem new_bad (b c n k0 : Nat) (ws : List Int) (st kk aa oo vv : Int) (dd : Bool) (js : List Jb) (pa : Option Addr) (cap : Nat) (w : World) (hM : Mem w b c n ws st kk aa oo vv dd) (hJ : JobsAt w pa js) (hl : js.length ≤ 1000)
    (j0 : Jb) (hj0 : js[k0]? = some j0) (hbad : ¬ j0.fit n) :
    Calls Try.prog 9 #[.pointer (some ⟨b, 0, none⟩), .slice pa js.length cap] w fun e w' => e = .returned (.tuple #[.pointer none, .int .i64 1]) ∧ Below w.heap.size w w' := by
  have n0 := hM.lo
  have n1 := hM.hi
  have hk0 := (List.getElem?_eq_some_iff.1 hj0).1
  have H0 := hide hj0
  have HB := hide hbad
  clear hj0 hbad
  generalize hlm : js.length = l at *
  have HLM := hide hlm
  clear hlm
  have HJ := hide hJ
  clear hJ
  go_enter Try.func9, Try.ntmps9
  go_wp2_with fail
  refine (words_any b c n ws st kk aa oo vv dd _ hM).mono ?_
  rintro e w1 ⟨rfl, -, hB1⟩
  have hz1 := hB1.size
  generalize hh : w.heap.size = h at *
  have HH := hide hh
  clear hh
  go_wp2_with fail
  go_loopw [19] (fun i wr => ∃ k : Nat, k ≤ k0 ∧ i = .int .i64 k ∧ Below h w wr ∧ h ≤ wr.heap.size) (fun i _ => l - (intOf i).toNat)
  case atStart => exact ⟨0, Nat.zero_le _, rfl, hB1, by have := hB1.size; rw [unhide HH] at this; exact this⟩
  case round =>
    obtain ⟨k, hk, rfl, hB, hs⟩ := hrel
    have j1 : (k : Int) < (l : Int) := by omega
    have j0 : (0 : Int) ≤ (k : Int) := by omega
    obtain ⟨j, hj⟩ : ∃ j, js[k]? = some j := ⟨_, List.getElem?_eq_getElem (by rw [unhide HLM]; omega)⟩
    obtain ⟨jb, jo, rfl, hjl, c0, c1, c2, c3, c4⟩ := unhide HJ k j hj
    replace c0 := (hB.cell (p := ⟨jb, jo + k * 5, none⟩) (by show jb < h; rw [← unhide HH]; exact hjl)).trans c0
    replace c1 := (hB.cell (p := ⟨jb, jo + k * 5 + 1, none⟩) (by show jb < h; rw [← unhide HH]; exact hjl)).trans c1
    replace c2 := (hB.cell (p := ⟨jb, jo + k * 5 + 2, none⟩) (by show jb < h; rw [← unhide HH]; exact hjl)).trans c2
    replace c3 := (hB.cell (p := ⟨jb, jo + k * 5 + 3, none⟩) (by show jb < h; rw [← unhide HH]; exact hjl)).trans c3
    replace c4 := (hB.cell (p := ⟨jb, jo + k * 5 + 4, none⟩) (by show jb < h; rw [← unhide HH]; exact hjl)).trans c4
    have HJK := hide hj
    clear hj
    by_cases hf : j.fit n
    · have hkk : k < k0 := by
        rcases Nat.lt_or_ge k k0 with h | h
        · exact h
        · exfalso
          have e : k = k0 := by omega
          subst e
          have e2 := (unhide HJK).symm.trans (unhide H0)
          cases e2
          exact unhide HB hf
      have HF := hide hf
      clear hf
      go_wp2_with fail
      refine (fits_yes j n _ (by omega) (by omega) (unhide HF)).mono ?_
      rintro e w2 ⟨rfl, hB2⟩
      have hB3 : Below h w w2 := hB.trans (((Below.refl wr.heap.size wr).alloc (Nat.le_refl _) (.cells #[.int .i64 j.kind, .int .i64 j.at_, .int .i64 j.work, .int .i64 j.A, .int .i64 j.B] 30)).trans (hB2.mono (by simp)) |>.mono hs)
      have hz3 : h ≤ w2.heap.size := by have := hB3.size; rw [unhide HH] at this; exact this
      go_wp2_with fail
      go_roundw
      case rel => exact ⟨k + 1, by omega, by go_num, hB3, hz3⟩
      case measure => simp [intOf]; omega
    · have HF := hide hf
      clear hf
      go_wp2_with fail
      refine (fits_no j n _ (by omega) (by omega) (unhide HF)).mono ?_
      rintro e w2 ⟨rfl, hB2⟩
      have hB3 : Below h w w2 := hB.trans (((Below.refl wr.heap.size wr).alloc (Nat.le_refl _) (.cells #[.int .i64 j.kind, .int .i64 j.at_, .int .i64 j.work, .int .i64 j.A, .int .i64 j.B] 30)).trans (hB2.mono (by simp)) |>.mono hs)
      go_wp2_with fail
      go_ret2
      exact ⟨rfl, by first | exact hB3 | (rw [unhide HH]; exact hB3)⟩

set_option maxRecDepth 100000 in
set_option maxHeartbeats 1000000 in
theorem new_many (b c n : Nat) (ws : List Int) (st kk aa oo vv : Int) (dd : Bool) (js : List Jb) (pa : Option Addr) (cap : Nat) (w : World) (hM : Mem w b c n ws st kk aa oo vv dd) (hJ : JobsAt w pa js) (hl : js.length ≤ 1000)
    (hfit : ∀ (k : Nat) (j : Jb), js[k]? = some j → j.fit n) (h9 : 8 < js.length) :
    Calls Try.prog 9 #[.pointer (some ⟨b, 0, none⟩), .slice pa js.length cap] w fun e w' => e = .returned (.tuple #[.pointer none, .int .i64 4]) ∧ Below w.heap.size w w' := by
  have n0 := hM.lo
  have n1 := hM.hi
  have HFT := hide hfit
  clear hfit
  generalize hlm : js.length = l at *
  have HLM := hide hlm
  clear hlm
  have HJ := hide hJ
  clear hJ
  go_enter Try.func9, Try.ntmps9
  go_wp2_with fail
  refine (words_any b c n ws st kk aa oo vv dd _ hM).mono ?_
  rintro e w1 ⟨rfl, -, hB1⟩
  have hz1 := hB1.size
  generalize hh : w.heap.size = h at *
  have HH := hide hh
  clear hh
  go_wp2_with fail
  go_loopw [19] (fun i wr => ∃ k : Nat, k ≤ l ∧ i = .int .i64 k ∧ Below h w wr ∧ h ≤ wr.heap.size) (fun i _ => l - (intOf i).toNat)
  case atStart => exact ⟨0, Nat.zero_le _, rfl, hB1, by have := hB1.size; rw [unhide HH] at this; exact this⟩
  case round =>
    obtain ⟨k, hk, rfl, hB, hs⟩ := hrel
    by_cases hkl : k < l
    · have j1 : (k : Int) < (l : Int) := by omega
      have j0 : (0 : Int) ≤ (k : Int) := by omega
      obtain ⟨j, hj⟩ : ∃ j, js[k]? = some j := ⟨_, List.getElem?_eq_getElem (by rw [unhide HLM]; omega)⟩
      obtain ⟨jb, jo, rfl, hjl, c0, c1, c2, c3, c4⟩ := unhide HJ k j hj
      replace c0 := (hB.cell (p := ⟨jb, jo + k * 5, none⟩) (by show jb < h; rw [← unhide HH]; exact hjl)).trans c0
      replace c1 := (hB.cell (p := ⟨jb, jo + k * 5 + 1, none⟩) (by show jb < h; rw [← unhide HH]; exact hjl)).trans c1
      replace c2 := (hB.cell (p := ⟨jb, jo + k * 5 + 2, none⟩) (by show jb < h; rw [← unhide HH]; exact hjl)).trans c2
      replace c3 := (hB.cell (p := ⟨jb, jo + k * 5 + 3, none⟩) (by show jb < h; rw [← unhide HH]; exact hjl)).trans c3
      replace c4 := (hB.cell (p := ⟨jb, jo + k * 5 + 4, none⟩) (by show jb < h; rw [← unhide HH]; exact hjl)).trans c4
      have HF := hide (unhide HFT k j hj)
      clear hj
      go_wp2_with fail
      refine (fits_yes j n _ (by omega) (by omega) (unhide HF)).mono ?_
      rintro e w2 ⟨rfl, hB2⟩
      have hB3 : Below h w w2 := hB.trans (((Below.refl wr.heap.size wr).alloc (Nat.le_refl _) (.cells #[.int .i64 j.kind, .int .i64 j.at_, .int .i64 j.work, .int .i64 j.A, .int .i64 j.B] 30)).trans (hB2.mono (by simp)) |>.mono hs)
      have hz3 : h ≤ w2.heap.size := by have := hB3.size; rw [unhide HH] at this; exact this
      go_wp2_with fail
      go_roundw
      case rel => exact ⟨k + 1, by omega, by go_num, hB3, hz3⟩
      case measure => simp [intOf]; omega
    · obtain rfl : k = l := by omega
      clear hkl
      go_wp2_with fail
      go_ret2
      exact ⟨rfl, by first | exact hB | (rw [unhide HH]; exact hB)⟩
end Go.Proofs.Ytkgeapmafpeapaa
