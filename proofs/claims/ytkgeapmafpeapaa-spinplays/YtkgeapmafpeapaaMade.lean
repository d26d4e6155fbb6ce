/-
  The contract of spin.New, where it makes a run.
-/
import Derived.Test.YtkgeapmafpeapaaNew
namespace Go.Proofs.Ytkgeapmafpeapaa
open Go.RowKit
attribute [local go_sem ↓] Go.wp_at_zero Go.wp_at_succ

def Mach.zero : Mach := ⟨0, 0, 0, 0, 0, 0, false, 0, 0, 0, 0, 0, 0, 0, 0⟩
theorem info76 : (Try.prog.info? 76).map (fun i => (i.zero, i.size, i.bytes)) = some (some (.agg #[.int .i64 0, .int .i64 0, .int .i64 0, .int .i64 0, .int .i64 0, .int .i64 0, .bool false, .int .i64 0, .int .i64 0, .int .i64 0, .int .i64 0, .int .i64 0, .int .i64 0, .int .i64 0, .int .i64 0]), 15, 120) := by kernel_rfl

theorem rows_put0 {α : Type} {r : α → List Value} {k : Nat} (hr : ∀ x, (r x).length = k) {W : World} {g : Nat} {xs : List α} {T : TypeId} (h : W.heap[g]? = some (.cells (rowsOf r xs).toArray T)) {i : Nat} {x : α} (hi : xs[i]? = some x) (hf : 0 < k) (v : Value) (x' : α) (he : r x' = (r x).set 0 v) :
    (W.setCell ⟨g, i * k, none⟩ v).heap[g]? = some (.cells (rowsOf r (xs.set i x')).toArray T) := rows_put hr h hi 0 hf v x' he
theorem laid15 {W1 : World} {q m : Nat} {xs : List Mach} {Z : Mach} (kd wk A B mk : Int) (a : Nat) (h : W1.heap[q]? = some (.cells (rowsOf Mach.row xs).toArray 76)) (hz : xs[m]? = some Z) :
    ((((((((((((((((W1.setCell ⟨q, m * 15, none⟩ (.int .i64 kd)).setCell ⟨q, m * 15 + 1, none⟩ (.int .i64 (a : Int))).setCell ⟨q, m * 15 + 2, none⟩ (.int .i64 wk)).setCell ⟨q, m * 15 + 3, none⟩ (.int .i64 A)).setCell ⟨q, m * 15 + 4, none⟩ (.int .i64 B)).setCell ⟨q, m * 15 + 5, none⟩ (.int .i64 mk)).setCell ⟨q, m * 15 + 6, none⟩ (.bool false)).setCell ⟨q, m * 15 + 7, none⟩ (.int .i64 0)).setCell ⟨q, m * 15 + 8, none⟩ (.int .i64 0)).setCell ⟨q, m * 15 + 9, none⟩ (.int .i64 0)).setCell ⟨q, m * 15 + 10, none⟩ (.int .i64 0)).setCell ⟨q, m * 15 + 11, none⟩ (.int .i64 0)).setCell ⟨q, m * 15 + 12, none⟩ (.int .i64 0)).setCell ⟨q, m * 15 + 13, none⟩ (.int .i64 0)).setCell ⟨q, m * 15 + 14, none⟩ (.int .i64 0))).heap[q]? = some (.cells (rowsOf Mach.row (xs.set m ⟨kd, a, wk, A, B, mk, false, 0, 0, 0, 0, 0, 0, 0, 0⟩)).toArray 76) := by
  have P := (rows_put Mach.row_length (rows_put Mach.row_length (rows_put Mach.row_length (rows_put Mach.row_length (rows_put Mach.row_length (rows_put Mach.row_length (rows_put Mach.row_length (rows_put Mach.row_length (rows_put Mach.row_length (rows_put Mach.row_length (rows_put Mach.row_length (rows_put Mach.row_length (rows_put Mach.row_length (rows_put Mach.row_length (rows_put0 Mach.row_length h hz (by omega) (.int .i64 kd) ({ Z with kind := kd }) rfl) (get_set hz _) 1 (by omega) (.int .i64 (a : Int)) ({ Z with kind := kd, at_ := a }) rfl) (get_set (get_set hz _) _) 2 (by omega) (.int .i64 wk) ({ Z with kind := kd, at_ := a, work := wk }) rfl) (get_set (get_set (get_set hz _) _) _) 3 (by omega) (.int .i64 A) ({ Z with kind := kd, at_ := a, work := wk, A := A }) rfl) (get_set (get_set (get_set (get_set hz _) _) _) _) 4 (by omega) (.int .i64 B) ({ Z with kind := kd, at_ := a, work := wk, A := A, B := B }) rfl) (get_set (get_set (get_set (get_set (get_set hz _) _) _) _) _) 5 (by omega) (.int .i64 mk) ({ Z with kind := kd, at_ := a, work := wk, A := A, B := B, mark := mk }) rfl) (get_set (get_set (get_set (get_set (get_set (get_set hz _) _) _) _) _) _) 6 (by omega) (.bool false) ({ Z with kind := kd, at_ := a, work := wk, A := A, B := B, mark := mk, done := false }) rfl) (get_set (get_set (get_set (get_set (get_set (get_set (get_set hz _) _) _) _) _) _) _) 7 (by omega) (.int .i64 0) ({ Z with kind := kd, at_ := a, work := wk, A := A, B := B, mark := mk, done := false, sA := 0 }) rfl) (get_set (get_set (get_set (get_set (get_set (get_set (get_set (get_set hz _) _) _) _) _) _) _) _) 8 (by omega) (.int .i64 0) ({ Z with kind := kd, at_ := a, work := wk, A := A, B := B, mark := mk, done := false, sA := 0, sB := 0 }) rfl) (get_set (get_set (get_set (get_set (get_set (get_set (get_set (get_set (get_set hz _) _) _) _) _) _) _) _) _) 9 (by omega) (.int .i64 0) ({ Z with kind := kd, at_ := a, work := wk, A := A, B := B, mark := mk, done := false, sA := 0, sB := 0, tries := 0 }) rfl) (get_set (get_set (get_set (get_set (get_set (get_set (get_set (get_set (get_set (get_set hz _) _) _) _) _) _) _) _) _) _) 10 (by omega) (.int .i64 0) ({ Z with kind := kd, at_ := a, work := wk, A := A, B := B, mark := mk, done := false, sA := 0, sB := 0, tries := 0, next := 0 }) rfl) (get_set (get_set (get_set (get_set (get_set (get_set (get_set (get_set (get_set (get_set (get_set hz _) _) _) _) _) _) _) _) _) _) _) 11 (by omega) (.int .i64 0) ({ Z with kind := kd, at_ := a, work := wk, A := A, B := B, mark := mk, done := false, sA := 0, sB := 0, tries := 0, next := 0, left := 0 }) rfl) (get_set (get_set (get_set (get_set (get_set (get_set (get_set (get_set (get_set (get_set (get_set (get_set hz _) _) _) _) _) _) _) _) _) _) _) _) 12 (by omega) (.int .i64 0) ({ Z with kind := kd, at_ := a, work := wk, A := A, B := B, mark := mk, done := false, sA := 0, sB := 0, tries := 0, next := 0, left := 0, count := 0 }) rfl) (get_set (get_set (get_set (get_set (get_set (get_set (get_set (get_set (get_set (get_set (get_set (get_set (get_set hz _) _) _) _) _) _) _) _) _) _) _) _) _) 13 (by omega) (.int .i64 0) ({ Z with kind := kd, at_ := a, work := wk, A := A, B := B, mark := mk, done := false, sA := 0, sB := 0, tries := 0, next := 0, left := 0, count := 0, a := 0 }) rfl) (get_set (get_set (get_set (get_set (get_set (get_set (get_set (get_set (get_set (get_set (get_set (get_set (get_set (get_set hz _) _) _) _) _) _) _) _) _) _) _) _) _) _) 14 (by omega) (.int .i64 0) (⟨kd, a, wk, A, B, mk, false, 0, 0, 0, 0, 0, 0, 0, 0⟩) rfl)
  simp only [List.set_set] at P
  exact P
theorem kept15 {B0 : Nat} {w W1 : World} {q m : Nat} (kd wk A B mk : Int) (a : Nat) (h : Below B0 w W1) (hq : B0 ≤ q) : Below B0 w ((((((((((((((((W1.setCell ⟨q, m * 15, none⟩ (.int .i64 kd)).setCell ⟨q, m * 15 + 1, none⟩ (.int .i64 (a : Int))).setCell ⟨q, m * 15 + 2, none⟩ (.int .i64 wk)).setCell ⟨q, m * 15 + 3, none⟩ (.int .i64 A)).setCell ⟨q, m * 15 + 4, none⟩ (.int .i64 B)).setCell ⟨q, m * 15 + 5, none⟩ (.int .i64 mk)).setCell ⟨q, m * 15 + 6, none⟩ (.bool false)).setCell ⟨q, m * 15 + 7, none⟩ (.int .i64 0)).setCell ⟨q, m * 15 + 8, none⟩ (.int .i64 0)).setCell ⟨q, m * 15 + 9, none⟩ (.int .i64 0)).setCell ⟨q, m * 15 + 10, none⟩ (.int .i64 0)).setCell ⟨q, m * 15 + 11, none⟩ (.int .i64 0)).setCell ⟨q, m * 15 + 12, none⟩ (.int .i64 0)).setCell ⟨q, m * 15 + 13, none⟩ (.int .i64 0)).setCell ⟨q, m * 15 + 14, none⟩ (.int .i64 0))) := by
  exact (((((((((((((((h.setCell (p := ⟨q, m * 15, none⟩) hq (.int .i64 kd)).setCell (p := ⟨q, m * 15 + 1, none⟩) hq (.int .i64 (a : Int))).setCell (p := ⟨q, m * 15 + 2, none⟩) hq (.int .i64 wk)).setCell (p := ⟨q, m * 15 + 3, none⟩) hq (.int .i64 A)).setCell (p := ⟨q, m * 15 + 4, none⟩) hq (.int .i64 B)).setCell (p := ⟨q, m * 15 + 5, none⟩) hq (.int .i64 mk)).setCell (p := ⟨q, m * 15 + 6, none⟩) hq (.bool false)).setCell (p := ⟨q, m * 15 + 7, none⟩) hq (.int .i64 0)).setCell (p := ⟨q, m * 15 + 8, none⟩) hq (.int .i64 0)).setCell (p := ⟨q, m * 15 + 9, none⟩) hq (.int .i64 0)).setCell (p := ⟨q, m * 15 + 10, none⟩) hq (.int .i64 0)).setCell (p := ⟨q, m * 15 + 11, none⟩) hq (.int .i64 0)).setCell (p := ⟨q, m * 15 + 12, none⟩) hq (.int .i64 0)).setCell (p := ⟨q, m * 15 + 13, none⟩) hq (.int .i64 0)).setCell (p := ⟨q, m * 15 + 14, none⟩) hq (.int .i64 0))
theorem else15 {W1 : World} {q m r : Nat} {o : Obj} (kd wk A B mk : Int) (a : Nat) (h : W1.heap[r]? = some o) (hr : r ≠ q) : ((((((((((((((((W1.setCell ⟨q, m * 15, none⟩ (.int .i64 kd)).setCell ⟨q, m * 15 + 1, none⟩ (.int .i64 (a : Int))).setCell ⟨q, m * 15 + 2, none⟩ (.int .i64 wk)).setCell ⟨q, m * 15 + 3, none⟩ (.int .i64 A)).setCell ⟨q, m * 15 + 4, none⟩ (.int .i64 B)).setCell ⟨q, m * 15 + 5, none⟩ (.int .i64 mk)).setCell ⟨q, m * 15 + 6, none⟩ (.bool false)).setCell ⟨q, m * 15 + 7, none⟩ (.int .i64 0)).setCell ⟨q, m * 15 + 8, none⟩ (.int .i64 0)).setCell ⟨q, m * 15 + 9, none⟩ (.int .i64 0)).setCell ⟨q, m * 15 + 10, none⟩ (.int .i64 0)).setCell ⟨q, m * 15 + 11, none⟩ (.int .i64 0)).setCell ⟨q, m * 15 + 12, none⟩ (.int .i64 0)).setCell ⟨q, m * 15 + 13, none⟩ (.int .i64 0)).setCell ⟨q, m * 15 + 14, none⟩ (.int .i64 0))).heap[r]? = some o := by
  have e : ∀ (u : World) (o : Nat) (v : Value), (u.setCell ⟨q, o, none⟩ v).heap[r]? = u.heap[r]? := fun u o v => Below.heap_setCell _ _ _ _ hr
  rw [e, e, e, e, e, e, e, e, e, e, e, e, e, e, e]
  exact h

set_option maxRecDepth 100000 in
set_option maxHeartbeats 1000000 in
theorem new_good (b c n : Nat) (ws : List Int) (st kk aa oo vv : Int) (dd : Bool) (js : List Jb) (pa : Option Addr) (cap : Nat) (w : World) (hM : Mem w b c n ws st kk aa oo vv dd) (hJ : JobsAt w pa js) (hl : js.length ≤ 1000)
    (hfit : ∀ (k : Nat) (j : Jb), js[k]? = some j → j.fit n) (h8 : js.length ≤ 8) :
    Calls Try.prog 9 #[.pointer (some ⟨b, 0, none⟩), .slice pa js.length cap] w fun e w' => ∃ r q, e = .returned (.tuple #[.pointer (some ⟨r, 0, none⟩), .int .i64 0]) ∧ w.heap.size ≤ r ∧ w.heap.size ≤ q ∧ Run w' r b c q n ws st (machs js) ∧ Below w.heap.size w w' := by
  have hmk2 : ∀ w, (Instr.makeSlice 71 (.int .i64 (js.length : Int)) (.int .i64 (js.length : Int))).run Try.prog w = .ok (.slice (some ⟨w.heap.size, 0, none⟩) js.length js.length) (w.alloc (.cells (rowsOf Mach.row (List.replicate js.length Mach.zero)).toArray 76)) := by
    intro w
    rw [run_make_struct 71 76 _ 15 120 Try.underlying71 info76 .i64 .i64 js.length (by omega) (by omega) w, ← made_rows Mach.row 15 (by omega) Mach.zero _ rfl rfl js.length]; rfl
  have hml : (machs js).length = js.length := by simp [machs]
  have HML := hide hml
  clear hml
  have n0 := hM.lo
  have n1 := hM.hi
  have HFT := hide hfit
  clear hfit
  generalize hlm : js.length = l at *
  have HLM := hide hlm
  clear hlm
  have HJ := hide hJ
  clear hJ
  go_enter Try.func9, Try.ntmps9
  go_wp2_with fail
  refine (words_any b c n ws st kk aa oo vv dd _ hM).mono ?_
  rintro e w1 ⟨rfl, -, hB1⟩
  have hz1 := hB1.size
  generalize hh : w.heap.size = h at *
  have HH := hide hh
  clear hh
  go_wp2_with fail
  go_loopw [19] (fun i wr => ∃ k : Nat, k ≤ l ∧ i = .int .i64 k ∧ Below h w wr ∧ h ≤ wr.heap.size) (fun i _ => l - (intOf i).toNat)
  case atStart => exact ⟨0, Nat.zero_le _, rfl, hB1, by have := hB1.size; rw [unhide HH] at this; exact this⟩
  case round =>
    obtain ⟨k, hk, rfl, hB, hs⟩ := hrel
    by_cases hkl : k < l
    · have j1 : (k : Int) < (l : Int) := by omega
      have j0 : (0 : Int) ≤ (k : Int) := by omega
      obtain ⟨j, hj⟩ : ∃ j, js[k]? = some j := ⟨_, List.getElem?_eq_getElem (by rw [unhide HLM]; omega)⟩
      obtain ⟨jb, jo, rfl, hjl, c0, c1, c2, c3, c4⟩ := unhide HJ k j hj
      replace c0 := (hB.cell (p := ⟨jb, jo + k * 5, none⟩) (by show jb < h; rw [← unhide HH]; exact hjl)).trans c0
      replace c1 := (hB.cell (p := ⟨jb, jo + k * 5 + 1, none⟩) (by show jb < h; rw [← unhide HH]; exact hjl)).trans c1
      replace c2 := (hB.cell (p := ⟨jb, jo + k * 5 + 2, none⟩) (by show jb < h; rw [← unhide HH]; exact hjl)).trans c2
      replace c3 := (hB.cell (p := ⟨jb, jo + k * 5 + 3, none⟩) (by show jb < h; rw [← unhide HH]; exact hjl)).trans c3
      replace c4 := (hB.cell (p := ⟨jb, jo + k * 5 + 4, none⟩) (by show jb < h; rw [← unhide HH]; exact hjl)).trans c4
      have HF := hide (unhide HFT k j hj)
      clear hj
      go_wp2_with fail
      refine (fits_yes j n _ (by omega) (by omega) (unhide HF)).mono ?_
      rintro e w2 ⟨rfl, hB2⟩
      have hB3 : Below h w w2 := hB.trans (((Below.refl wr.heap.size wr).alloc (Nat.le_refl _) (.cells #[.int .i64 j.kind, .int .i64 j.at_, .int .i64 j.work, .int .i64 j.A, .int .i64 j.B] 30)).trans (hB2.mono (by simp)) |>.mono hs)
      have hz3 : h ≤ w2.heap.size := by have := hB3.size; rw [unhide HH] at this; exact this
      go_wp2_with fail
      go_roundw
      case rel => exact ⟨k + 1, by omega, by go_num, hB3, hz3⟩
      case measure => simp [intOf]; omega
    · obtain rfl : k = l := by omega
      clear hkl
      have hb0 := hM.blt
      have hc0 := hM.clt
      rw [unhide HH] at hb0 hc0
      have hblk : ((wr.alloc (.cells (rowsOf Mach.row (List.replicate k Mach.zero)).toArray 76)).alloc (.cells #[.pointer (some ⟨b, 0, none⟩), .slice (some ⟨wr.heap.size, 0, none⟩) k k] 73)).heap[wr.heap.size]? = some (.cells (rowsOf Mach.row (List.replicate k Mach.zero)).toArray 76) := by
        rw [Below.heap_alloc _ _ _ (by simp)]
        exact putAll _ _ rfl
      have hrr : ((wr.alloc (.cells (rowsOf Mach.row (List.replicate k Mach.zero)).toArray 76)).alloc (.cells #[.pointer (some ⟨b, 0, none⟩), .slice (some ⟨wr.heap.size, 0, none⟩) k k] 73)).heap[wr.heap.size + 1]? = some (.cells #[.pointer (some ⟨b, 0, none⟩), .slice (some ⟨wr.heap.size, 0, none⟩) k k] 73) := putAll _ _ (by simp)
      have hBB : Below h w ((wr.alloc (.cells (rowsOf Mach.row (List.replicate k Mach.zero)).toArray 76)).alloc (.cells #[.pointer (some ⟨b, 0, none⟩), .slice (some ⟨wr.heap.size, 0, none⟩) k k] 73)) := (hB.alloc hs _).alloc (by simp; omega) _
      have HBLK := hide hblk
      have HRR := hide hrr
      clear hblk hrr
      have hmk3 := hmk2 wr
      have hmk4 := hide hmk2
      clear hmk2
      go_wp2_with fail
      generalize ((wr.alloc (.cells (rowsOf Mach.row (List.replicate k Mach.zero)).toArray 76)).alloc (.cells #[.pointer (some ⟨b, 0, none⟩), .slice (some ⟨wr.heap.size, 0, none⟩) k k] 73)) = W0 at *
      generalize wr.heap.size = q at *
      clear hmk3
      go_loopw [39] (fun i wq => ∃ m : Nat, m ≤ k ∧ i = .int .i64 m ∧ wq.heap[q]? = some (.cells (rowsOf Mach.row ((machs js).take m ++ List.replicate ((machs js).length - m) Mach.zero)).toArray 76) ∧ wq.heap[q + 1]? = some (.cells #[.pointer (some ⟨b, 0, none⟩), .slice (some ⟨q, 0, none⟩) k k] 73) ∧ Below h w wq) (fun i _ => k - (intOf i).toNat)
      case atStart =>
        refine ⟨0, Nat.zero_le _, rfl, ?_, unhide HRR, hBB⟩
        rw [unhide HML]
        simpa using unhide HBLK
      case round =>
        obtain ⟨m, hm, rfl, hqb, hrb, hBq⟩ := hrel
        clear HBLK HRR hBB hB hB1
        have hzq := hBq.size
        rw [unhide HH] at hzq
        by_cases hmk : m < k
        · have j1 : (m : Int) < (k : Int) := by omega
          have j0 : (0 : Int) ≤ (m : Int) := by omega
          obtain ⟨j, hj⟩ : ∃ j, js[m]? = some j := ⟨_, List.getElem?_eq_getElem (by rw [unhide HLM]; omega)⟩
          obtain ⟨jb, jo, rfl, hjl, c0, c1, c2, c3, c4⟩ := unhide HJ m j hj
          rw [unhide HH] at hjl
          replace c0 := (hBq.cell (p := ⟨jb, jo + m * 5, none⟩) (by show jb < h; exact hjl)).trans c0
          replace c1 := (hBq.cell (p := ⟨jb, jo + m * 5 + 1, none⟩) (by show jb < h; exact hjl)).trans c1
          replace c2 := (hBq.cell (p := ⟨jb, jo + m * 5 + 2, none⟩) (by show jb < h; exact hjl)).trans c2
          replace c3 := (hBq.cell (p := ⟨jb, jo + m * 5 + 3, none⟩) (by show jb < h; exact hjl)).trans c3
          replace c4 := (hBq.cell (p := ⟨jb, jo + m * 5 + 4, none⟩) (by show jb < h; exact hjl)).trans c4
          obtain ⟨at0, hat⟩ : ∃ at0 : Nat, j.at_ = (at0 : Int) := ⟨j.at_.toNat, by have := (unhide HFT m j hj).2.2.1; omega⟩
          rw [hat] at c1
          go_wp2_with fail
          have hx := putAll (w := wr) (.cells #[.int .i64 j.kind, .int .i64 (at0 : Int), .int .i64 j.work, .int .i64 j.A, .int .i64 j.B] 30) wr.heap.size rfl
          have hql : q < wr.heap.size := (Array.getElem?_eq_some_iff.1 hqb).1
          have hrl : q + 1 < wr.heap.size := (Array.getElem?_eq_some_iff.1 hrb).1
          have hqb1 := (Below.heap_alloc wr (.cells #[.int .i64 j.kind, .int .i64 (at0 : Int), .int .i64 j.work, .int .i64 j.A, .int .i64 j.B] 30) q hql).trans hqb
          have hrb1 := (Below.heap_alloc wr (.cells #[.int .i64 j.kind, .int .i64 (at0 : Int), .int .i64 j.work, .int .i64 j.A, .int .i64 j.B] 30) (q + 1) hrl).trans hrb
          have hB1 : Below h w (wr.alloc (.cells #[.int .i64 j.kind, .int .i64 (at0 : Int), .int .i64 j.work, .int .i64 j.A, .int .i64 j.B] 30)) := hBq.alloc hzq _
          clear c0 c1 c2 c3 c4 hqb hrb hBq
          generalize (wr.alloc (.cells #[.int .i64 j.kind, .int .i64 (at0 : Int), .int .i64 j.work, .int .i64 j.A, .int .i64 j.B] 30)) = W1 at *
          generalize wr.heap.size = g at *
          have x0 := cell_of hx 0
          have x1 := cell_of hx 1
          have x2 := cell_of hx 2
          have x3 := cell_of hx 3
          have x4 := cell_of hx 4
          have y1 := cell_of hrb1 1
          have hz := fill_get (machs js) Mach.zero m (by rw [unhide HML]; exact hmk)
          simp at x0 x1 x2 x3 x4 y1
          have z0 := rows_cell Mach.row_length hqb1 hz 0 (by omega)
          replace z0 : W1.cell? ⟨q, m * 15, none⟩ = some (.int .i64 0) := z0
          have z1 := rows_cell Mach.row_length hqb1 hz 1 (by omega)
          replace z1 : W1.cell? ⟨q, m * 15 + 1, none⟩ = some (.int .i64 0) := z1
          have z2 := rows_cell Mach.row_length hqb1 hz 2 (by omega)
          replace z2 : W1.cell? ⟨q, m * 15 + 2, none⟩ = some (.int .i64 0) := z2
          have z3 := rows_cell Mach.row_length hqb1 hz 3 (by omega)
          replace z3 : W1.cell? ⟨q, m * 15 + 3, none⟩ = some (.int .i64 0) := z3
          have z4 := rows_cell Mach.row_length hqb1 hz 4 (by omega)
          replace z4 : W1.cell? ⟨q, m * 15 + 4, none⟩ = some (.int .i64 0) := z4
          have z5 := rows_cell Mach.row_length hqb1 hz 5 (by omega)
          replace z5 : W1.cell? ⟨q, m * 15 + 5, none⟩ = some (.int .i64 0) := z5
          have z6 := rows_cell Mach.row_length hqb1 hz 6 (by omega)
          replace z6 : W1.cell? ⟨q, m * 15 + 6, none⟩ = some (.bool false) := z6
          have z7 := rows_cell Mach.row_length hqb1 hz 7 (by omega)
          replace z7 : W1.cell? ⟨q, m * 15 + 7, none⟩ = some (.int .i64 0) := z7
          have z8 := rows_cell Mach.row_length hqb1 hz 8 (by omega)
          replace z8 : W1.cell? ⟨q, m * 15 + 8, none⟩ = some (.int .i64 0) := z8
          have z9 := rows_cell Mach.row_length hqb1 hz 9 (by omega)
          replace z9 : W1.cell? ⟨q, m * 15 + 9, none⟩ = some (.int .i64 0) := z9
          have z10 := rows_cell Mach.row_length hqb1 hz 10 (by omega)
          replace z10 : W1.cell? ⟨q, m * 15 + 10, none⟩ = some (.int .i64 0) := z10
          have z11 := rows_cell Mach.row_length hqb1 hz 11 (by omega)
          replace z11 : W1.cell? ⟨q, m * 15 + 11, none⟩ = some (.int .i64 0) := z11
          have z12 := rows_cell Mach.row_length hqb1 hz 12 (by omega)
          replace z12 : W1.cell? ⟨q, m * 15 + 12, none⟩ = some (.int .i64 0) := z12
          have z13 := rows_cell Mach.row_length hqb1 hz 13 (by omega)
          replace z13 : W1.cell? ⟨q, m * 15 + 13, none⟩ = some (.int .i64 0) := z13
          have z14 := rows_cell Mach.row_length hqb1 hz 14 (by omega)
          replace z14 : W1.cell? ⟨q, m * 15 + 14, none⟩ = some (.int .i64 0) := z14
          have zf := frozen_of hqb1
          have hMm : (machs js)[m]? = some ⟨j.kind, at0, j.work, j.A, j.B, IntKind.i64.wrap ((m : Int) + 1), false, 0, 0, 0, 0, 0, 0, 0, 0⟩ := by rw [wrap_small _ (by omega) (by omega)]; simp [machs, hj, Jb.mach, hat]
          have P := laid15 j.kind j.work j.A j.B (IntKind.i64.wrap ((m : Int) + 1)) at0 hqb1 hz
          have B15 := kept15 (m := m) j.kind j.work j.A j.B (IntKind.i64.wrap ((m : Int) + 1)) at0 hB1 (q := q) hs
          rw [fill_set _ _ _ _ hMm] at P
          have R := else15 (m := m) (q := q) j.kind j.work j.A j.B (IntKind.i64.wrap ((m : Int) + 1)) at0 hrb1 (by omega)
          have n1 : q ≠ g := by omega
          have n2 : q ≠ q + 1 := by omega
          have HP := hide P
          have H15 := hide B15
          have HR := hide R
          have HX := hide hx
          have HM8 := hide h8
          have HMK := hide hmk
          have HMM := hide hm
          clear P B15 R hx hat hMm hz hqb1 hrb1
          go_region_held3 (fun w' => w'.cell? ⟨g, 0, none⟩ = some (.int .i64 j.kind) ∧ w'.cell? ⟨g, 1, none⟩ = some (.int .i64 (at0 : Int)) ∧ w'.cell? ⟨g, 2, none⟩ = some (.int .i64 j.work) ∧ w'.cell? ⟨g, 3, none⟩ = some (.int .i64 j.A) ∧ w'.cell? ⟨g, 4, none⟩ = some (.int .i64 j.B) ∧
             w'.cell? ⟨q + 1, 1, none⟩ = some (.slice (some ⟨q, 0, none⟩) k k)) (first | ((try dsimp only); refine ⟨?_, ?_, ?_, ?_, ?_, ?_⟩ <;> (simp [World.cell?_setCell_other, *]; done)) | fail) (fail)
          have q2 : ((((((((((((((((W1.setCell ⟨q, m * 15, none⟩ (.int .i64 j.kind)).setCell ⟨q, m * 15 + 1, none⟩ (.int .i64 (at0 : Int))).setCell ⟨q, m * 15 + 2, none⟩ (.int .i64 j.work)).setCell ⟨q, m * 15 + 3, none⟩ (.int .i64 j.A)).setCell ⟨q, m * 15 + 4, none⟩ (.int .i64 j.B)).setCell ⟨q, m * 15 + 5, none⟩ (.int .i64 (IntKind.i64.wrap ((m : Int) + 1)))).setCell ⟨q, m * 15 + 6, none⟩ (.bool false)).setCell ⟨q, m * 15 + 7, none⟩ (.int .i64 0)).setCell ⟨q, m * 15 + 8, none⟩ (.int .i64 0)).setCell ⟨q, m * 15 + 9, none⟩ (.int .i64 0)).setCell ⟨q, m * 15 + 10, none⟩ (.int .i64 0)).setCell ⟨q, m * 15 + 11, none⟩ (.int .i64 0)).setCell ⟨q, m * 15 + 12, none⟩ (.int .i64 0)).setCell ⟨q, m * 15 + 13, none⟩ (.int .i64 0)).setCell ⟨q, m * 15 + 14, none⟩ (.int .i64 0))).heap[q]? = some (.cells (rowsOf Mach.row ((machs js).take (m + 1) ++ List.replicate ((machs js).length - (m + 1)) Mach.zero)).toArray 76) := unhide HP
          have b2 : Below h w ((((((((((((((((W1.setCell ⟨q, m * 15, none⟩ (.int .i64 j.kind)).setCell ⟨q, m * 15 + 1, none⟩ (.int .i64 (at0 : Int))).setCell ⟨q, m * 15 + 2, none⟩ (.int .i64 j.work)).setCell ⟨q, m * 15 + 3, none⟩ (.int .i64 j.A)).setCell ⟨q, m * 15 + 4, none⟩ (.int .i64 j.B)).setCell ⟨q, m * 15 + 5, none⟩ (.int .i64 (IntKind.i64.wrap ((m : Int) + 1)))).setCell ⟨q, m * 15 + 6, none⟩ (.bool false)).setCell ⟨q, m * 15 + 7, none⟩ (.int .i64 0)).setCell ⟨q, m * 15 + 8, none⟩ (.int .i64 0)).setCell ⟨q, m * 15 + 9, none⟩ (.int .i64 0)).setCell ⟨q, m * 15 + 10, none⟩ (.int .i64 0)).setCell ⟨q, m * 15 + 11, none⟩ (.int .i64 0)).setCell ⟨q, m * 15 + 12, none⟩ (.int .i64 0)).setCell ⟨q, m * 15 + 13, none⟩ (.int .i64 0)).setCell ⟨q, m * 15 + 14, none⟩ (.int .i64 0))) := unhide H15
          have r2 : ((((((((((((((((W1.setCell ⟨q, m * 15, none⟩ (.int .i64 j.kind)).setCell ⟨q, m * 15 + 1, none⟩ (.int .i64 (at0 : Int))).setCell ⟨q, m * 15 + 2, none⟩ (.int .i64 j.work)).setCell ⟨q, m * 15 + 3, none⟩ (.int .i64 j.A)).setCell ⟨q, m * 15 + 4, none⟩ (.int .i64 j.B)).setCell ⟨q, m * 15 + 5, none⟩ (.int .i64 (IntKind.i64.wrap ((m : Int) + 1)))).setCell ⟨q, m * 15 + 6, none⟩ (.bool false)).setCell ⟨q, m * 15 + 7, none⟩ (.int .i64 0)).setCell ⟨q, m * 15 + 8, none⟩ (.int .i64 0)).setCell ⟨q, m * 15 + 9, none⟩ (.int .i64 0)).setCell ⟨q, m * 15 + 10, none⟩ (.int .i64 0)).setCell ⟨q, m * 15 + 11, none⟩ (.int .i64 0)).setCell ⟨q, m * 15 + 12, none⟩ (.int .i64 0)).setCell ⟨q, m * 15 + 13, none⟩ (.int .i64 0)).setCell ⟨q, m * 15 + 14, none⟩ (.int .i64 0))).heap[q + 1]? = some (.cells #[.pointer (some ⟨b, 0, none⟩), .slice (some ⟨q, 0, none⟩) k k] 73) := unhide HR
          have HQ2 := hide q2
          have HR2 := hide r2
          rename_i hS
          clear q2 r2 hS z0 z1 z2 z3 z4 z5 z6 z7 z8 z9 z10 z11 z12 z13 z14 zf x0 x1 x2 x3 x4 y1 HP H15 HR
          generalize (((((((((((((((W1.setCell ⟨q, m * 15, none⟩ (.int .i64 j.kind)).setCell ⟨q, m * 15 + 1, none⟩ (.int .i64 (at0 : Int))).setCell ⟨q, m * 15 + 2, none⟩ (.int .i64 j.work)).setCell ⟨q, m * 15 + 3, none⟩ (.int .i64 j.A)).setCell ⟨q, m * 15 + 4, none⟩ (.int .i64 j.B)).setCell ⟨q, m * 15 + 5, none⟩ (.int .i64 (IntKind.i64.wrap ((m : Int) + 1)))).setCell ⟨q, m * 15 + 6, none⟩ (.bool false)).setCell ⟨q, m * 15 + 7, none⟩ (.int .i64 0)).setCell ⟨q, m * 15 + 8, none⟩ (.int .i64 0)).setCell ⟨q, m * 15 + 9, none⟩ (.int .i64 0)).setCell ⟨q, m * 15 + 10, none⟩ (.int .i64 0)).setCell ⟨q, m * 15 + 11, none⟩ (.int .i64 0)).setCell ⟨q, m * 15 + 12, none⟩ (.int .i64 0)).setCell ⟨q, m * 15 + 13, none⟩ (.int .i64 0)).setCell ⟨q, m * 15 + 14, none⟩ (.int .i64 0)) = W2 at *
          go_wp2_with fail
          go_roundw
          case rel => exact ⟨m + 1, by omega, by go_num, unhide HQ2, unhide HR2, b2.drew⟩
          case measure => simp [intOf]; omega
        · obtain rfl : m = k := by omega
          clear hmk
          have hfin : (machs js).take m ++ List.replicate ((machs js).length - m) Mach.zero = machs js := by
            rw [unhide HML, Nat.sub_self, List.take_of_length_le (by rw [unhide HML]; omega)]; simp
          rw [hfin] at hqb
          have HQB := hide hqb
          have HRB := hide hrb
          clear hqb hrb hfin
          go_wp2_with fail
          go_ret2
          refine ⟨q + 1, q, rfl, by rw [unhide HH]; omega, by rw [unhide HH]; omega, ⟨⟨⟨_, _, _, _, _, hM.of (hBq.block b hb0) (hBq.block c hc0)⟩, unhide HQB, by omega, by omega⟩, ?_, by omega, by omega, by omega, by rw [unhide HML]; omega⟩, by rw [unhide HH]; exact hBq⟩
          rw [unhide HML]
          exact unhide HRB
end Go.Proofs.Ytkgeapmafpeapaa
