/-
  The contract of a run's All: the states of all jobs, in a new block.
-/
import Derived.Test.YtkgeapmafpeapaaPick
namespace Go.Proofs.Ytkgeapmafpeapaa
open Go.RowKit

/-- make of a slice whose elements are structs. -/
theorem run_make_struct (t e : TypeId) (z : Value) (size bytes : Nat) (ht : Try.prog.underlying t = some (.slice e)) (hinfo : (Try.prog.info? e).map (fun i => (i.zero, i.size, i.bytes)) = some (some z, size, bytes))
    (kl kc : IntKind) (n : Nat) (hbytes : bytes * n ≤ 281474976710656) (h63 : n ≤ 1000000) (w : World) :
    (Instr.makeSlice t (.int kl (n : Int)) (.int kc (n : Int))).run Try.prog w = .ok (.slice (some ⟨w.heap.size, 0, none⟩) n n) (w.alloc (.cells (madeCells z.cells (n * size)) e)) := by
  obtain ⟨i, hi, hzz⟩ := Option.map_eq_some_iff.1 hinfo
  simp only [Prod.mk.injEq] at hzz
  obtain ⟨hz, hs, hb⟩ := hzz
  have hb' : (i.bytes : Int) * (n : Int) ≤ 281474976710656 := by
    have h : ((i.bytes * n : Nat) : Int) ≤ 281474976710656 := by rw [hb]; omega
    rwa [Int.natCast_mul] at h
  have hr := run_make (P := Try.prog) w t e i z ht hi hz kl kc n n (by omega) (Int.le_refl _) hb' (by omega)
  simp only [Int.toNat_natCast, hs] at hr
  exact hr

theorem made_rows {α : Type} (r : α → List Value) (k : Nat) (hk : 0 < k) (x : α) (zc : Array Value) (hz : zc.size = k) (hx : r x = zc.toList) (n : Nat) : madeCells zc (n * k) = (rowsOf r (List.replicate n x)).toArray := by
  have hlen : (rowsOf r (List.replicate n x)).length = k * n := by
    induction n with
    | zero => rfl
    | succ m ih =>
      simp only [rowsOf, List.replicate_succ, List.flatMap_cons, List.length_append] at *
      rw [ih, hx, Nat.mul_succ]; simp [hz]; omega
  have hget : ∀ m j, j < k * m → (rowsOf r (List.replicate m x))[j]? = zc[j % k]? := by
    intro m
    induction m with
    | zero => intro j hj; simp at hj
    | succ m ih =>
      intro j hj
      simp only [rowsOf, List.replicate_succ, List.flatMap_cons] at *
      by_cases hjk : j < k
      · rw [List.getElem?_append_left (by rw [hx]; simp [hz]; exact hjk), hx, Nat.mod_eq_of_lt hjk]; simp
      · rw [List.getElem?_append_right (by rw [hx]; simp [hz]; omega), hx]
        have h1 := ih (j - k) (by rw [Nat.mul_succ] at hj; omega)
        simp only [Array.length_toList, hz]
        rw [h1, ← Nat.mod_eq_sub_mod (by omega)]
  apply Array.ext
  · simp only [size_madeCells, List.size_toArray, hlen]; rw [Nat.mul_comm]
  · intro j h1 h2
    have h3 : j < k * n := by simpa [hlen] using h2
    have h4 := hget n j h3
    have h5 : j % k < zc.size := by rw [hz]; exact Nat.mod_lt _ hk
    simp only [madeCells, Array.getElem_map, Array.getElem_range, hz, List.getElem_toArray]
    rw [List.getElem?_eq_getElem (by simpa using h2), Array.getElem?_eq_getElem h5] at h4
    rw [getElem!_pos zc (j % k) h5]
    exact (Option.some.inj h4).symm

structure St where
  done : Bool
  sA : Int
  sB : Int
  tries : Int
def St.row (s : St) : List Value := [.bool s.done, .int .i64 s.sA, .int .i64 s.sB, .int .i64 s.tries]
theorem St.row_length (s : St) : s.row.length = 4 := rfl
def St.zero : St := ⟨false, 0, 0, 0⟩
def Mach.st (M : Mach) : St := ⟨M.done, M.sA, M.sB, M.tries⟩

/-- Rows in a block: what a store into one leaves. -/
theorem rows_put {α : Type} {r : α → List Value} {k : Nat} (hr : ∀ x, (r x).length = k) {W : World} {g : Nat} {xs : List α} {T : TypeId} (h : W.heap[g]? = some (.cells (rowsOf r xs).toArray T)) {i : Nat} {x : α} (hi : xs[i]? = some x) (f : Nat) (hf : f < k) (v : Value) (x' : α) (he : r x' = (r x).set f v) :
    (W.setCell ⟨g, i * k + f, none⟩ v).heap[g]? = some (.cells (rowsOf r (xs.set i x')).toArray T) := by
  rw [heap_set h _ v, Nat.mul_comm i k, ← rowsOf_set r k hr xs i f x x' v hi hf he]
  simp
theorem rows_cell {α : Type} {r : α → List Value} {k : Nat} (hr : ∀ x, (r x).length = k) {W : World} {g : Nat} {xs : List α} {T : TypeId} (h : W.heap[g]? = some (.cells (rowsOf r xs).toArray T)) {i : Nat} {x : α} (hi : xs[i]? = some x) (f : Nat) (hf : f < k) :
    W.cell? ⟨g, i * k + f, none⟩ = (r x)[f]? := by
  rw [cell_of h, List.getElem?_toArray, Nat.mul_comm i k]
  exact rowsOf_get r k hr xs i f x hi hf

theorem get_set {α : Type} {xs : List α} {i : Nat} {x : α} (hi : xs[i]? = some x) (y : α) : (xs.set i y)[i]? = some y := by
  have := (List.getElem?_eq_some_iff.1 hi).1
  simp [this]

theorem fill_get {α : Type} (xs : List α) (z : α) (k : Nat) (hk : k < xs.length) : (xs.take k ++ List.replicate (xs.length - k) z)[k]? = some z := by
  rw [List.getElem?_append_right (by simp; omega)]
  simp [List.getElem?_replicate]; omega
theorem fill_set {α : Type} (xs : List α) (z x : α) (k : Nat) (hx : xs[k]? = some x) : (xs.take k ++ List.replicate (xs.length - k) z).set k x = xs.take (k + 1) ++ List.replicate (xs.length - (k + 1)) z := by
  have hk := (List.getElem?_eq_some_iff.1 hx).1
  have e1 : xs.length - k = (xs.length - (k + 1)) + 1 := by omega
  rw [e1, List.replicate_succ, List.set_append_right _ _ (by simp; omega)]
  simp only [List.length_take, Nat.min_eq_left (Nat.le_of_lt hk), Nat.sub_self, List.set_cons_zero]
  rw [List.take_add_one, hx]
  simp

theorem info33 : (Try.prog.info? 33).map (fun i => (i.zero, i.size, i.bytes)) = some (some (.agg #[.bool false, .int .i64 0, .int .i64 0, .int .i64 0]), 4, 32) := by kernel_rfl

set_option maxRecDepth 100000 in
set_option maxHeartbeats 1000000 in
theorem all_any (r b c q n : Nat) (ws : List Int) (st : Int) (ms : List Mach) (w : World) (hR : Run w r b c q n ws st ms) :
    Calls Try.prog 12 #[.pointer (some ⟨r, 0, none⟩)] w fun e w' => e = .returned (.slice (some ⟨w.heap.size, 0, none⟩) ms.length ms.length) ∧
      w'.heap[w.heap.size]? = some (.cells (rowsOf St.row (ms.map Mach.st)).toArray 33) ∧ Below w.heap.size w w' := by
  have l8 := hR.l8
  obtain ⟨h0, h1⟩ := hR.cells
  have hr := hR.rlt
  have hq := hR.sys.qlt
  have hd : ∀ i M, ms[i]? = some M → w.cell? ⟨q, i * 15 + 6, none⟩ = some (.bool M.done) ∧ w.cell? ⟨q, i * 15 + 7, none⟩ = some (.int .i64 M.sA) ∧ w.cell? ⟨q, i * 15 + 8, none⟩ = some (.int .i64 M.sB) ∧ w.cell? ⟨q, i * 15 + 9, none⟩ = some (.int .i64 M.tries) := by
    intro i M hi
    have C := hR.sys.cells hi
    rw [Nat.mul_comm] at C
    exact ⟨C.c6, C.c7, C.c8, C.c9⟩
  have HD := hide hd
  clear hd
  have hl' : (ms.map Mach.st).length = ms.length := by simp
  have hfin : (ms.map Mach.st).take ms.length ++ List.replicate ((ms.map Mach.st).length - ms.length) St.zero = ms.map Mach.st := by simp [List.take_of_length_le]
  have HFIN := hide hfin
  have HL' := hide hl'
  clear hfin hl'
  have hmk := fun w => run_make_struct 36 33 (.agg #[.bool false, .int .i64 0, .int .i64 0, .int .i64 0]) 4 32 Try.underlying36 info33 .i64 .i64 ms.length (by omega) (by omega) w
  have hmr := made_rows St.row 4 (by omega) St.zero #[.bool false, .int .i64 0, .int .i64 0, .int .i64 0] rfl rfl ms.length
  have hmk2 : ∀ w, (Instr.makeSlice 36 (.int .i64 (ms.length : Int)) (.int .i64 (ms.length : Int))).run Try.prog w = .ok (.slice (some ⟨w.heap.size, 0, none⟩) ms.length ms.length) (w.alloc (.cells (rowsOf St.row (List.replicate ms.length St.zero)).toArray 33)) := by
    intro w
    rw [hmk w, ← hmr]; rfl
  have hblk := putAll (w := w) (.cells (rowsOf St.row (List.replicate ms.length St.zero)).toArray 33) w.heap.size rfl
  have hbel := (Below.refl w.heap.size w).alloc (Nat.le_refl _) (.cells (rowsOf St.row (List.replicate ms.length St.zero)).toArray 33)
  have hmk3 := hmk2 w
  clear hmk hmr hmk2
  generalize (w.alloc (.cells (rowsOf St.row (List.replicate ms.length St.zero)).toArray 33)) = W0 at *
  have HBLK := hide hblk
  clear hblk
  generalize hs : w.heap.size = g at *
  have HS := hide hs
  clear hs
  have k0 := (hbel.cell (p := ⟨r, 0, none⟩) hr).trans h0
  have k1 := (hbel.cell (p := ⟨r, 1, none⟩) hr).trans h1
  generalize hlm : ms.length = l at *
  have HLM := hide hlm
  clear hlm
  have HA0 := hide h0
  have HA1 := hide h1
  go_enter Try.func12, Try.ntmps12
  go_wp2_with fail
  go_loopw [16] (fun i wr => ∃ k : Nat, k ≤ l ∧ i = .int .i64 k ∧ wr.heap[g]? = some (.cells (rowsOf St.row ((ms.map Mach.st).take k ++ List.replicate ((ms.map Mach.st).length - k) St.zero)).toArray 33) ∧ Below g w wr) (fun i _ => l - (intOf i).toNat)
  case atStart =>
    refine ⟨0, Nat.zero_le _, rfl, ?_, hbel⟩
    rw [unhide HL']
    simpa using unhide HBLK
  case round =>
    obtain ⟨k, hk, rfl, hblk, hB⟩ := hrel
    clear h0 h1 k0 k1
    have hs := hB.size
    have g0 := (hB.cell (p := ⟨r, 0, none⟩) (by show r < g; omega)).trans (unhide HA0)
    have g1 := (hB.cell (p := ⟨r, 1, none⟩) (by show r < g; omega)).trans (unhide HA1)
    by_cases hkl : k < l
    · have j1 : (k : Int) < (l : Int) := by omega
      have j0 : (0 : Int) ≤ (k : Int) := by omega
      have hkm : k < ms.length := by rw [unhide HLM]; exact hkl
      obtain ⟨M, hM⟩ : ∃ M, ms[k]? = some M := ⟨_, List.getElem?_eq_getElem hkm⟩
      have hMs : (ms.map Mach.st)[k]? = some M.st := by simp [hM]
      obtain ⟨q0, q1, q2, q3⟩ := unhide HD k M hM
      have p0 := (hB.cell (p := ⟨q, k * 15 + 6, none⟩) (by show q < g; omega)).trans q0
      have p1 := (hB.cell (p := ⟨q, k * 15 + 7, none⟩) (by show q < g; omega)).trans q1
      have p2 := (hB.cell (p := ⟨q, k * 15 + 8, none⟩) (by show q < g; omega)).trans q2
      have p3 := (hB.cell (p := ⟨q, k * 15 + 9, none⟩) (by show q < g; omega)).trans q3
      have hz := fill_get (ms.map Mach.st) St.zero k (by simp; exact hkm)
      have c0 := rows_cell St.row_length hblk hz 0 (by omega)
      have c1 := rows_cell St.row_length hblk hz 1 (by omega)
      have c2 := rows_cell St.row_length hblk hz 2 (by omega)
      have c3 := rows_cell St.row_length hblk hz 3 (by omega)
      have cf := frozen_of hblk
      replace c0 : wr.cell? ⟨g, k * 4, none⟩ = some (.bool false) := c0
      replace c1 : wr.cell? ⟨g, k * 4 + 1, none⟩ = some (.int .i64 0) := c1
      replace c2 : wr.cell? ⟨g, k * 4 + 2, none⟩ = some (.int .i64 0) := c2
      replace c3 : wr.cell? ⟨g, k * 4 + 3, none⟩ = some (.int .i64 0) := c3
      have P := rows_put St.row_length (rows_put St.row_length (rows_put St.row_length (rows_put St.row_length hblk hz 0 (by omega) (.bool M.done) ⟨M.done, 0, 0, 0⟩ rfl) (get_set hz _) 1 (by omega) (.int .i64 M.sA) ⟨M.done, M.sA, 0, 0⟩ rfl)
        (get_set (get_set hz _) _) 2 (by omega) (.int .i64 M.sB) ⟨M.done, M.sA, M.sB, 0⟩ rfl) (get_set (get_set (get_set hz _) _) _) 3 (by omega) (.int .i64 M.tries) M.st rfl
      rw [List.set_set, List.set_set, List.set_set, fill_set _ _ _ _ hMs] at P
      have BB : Below g w ((((wr.setCell ⟨g, k * 4 + 0, none⟩ (.bool M.done)).setCell ⟨g, k * 4 + 1, none⟩ (.int .i64 M.sA)).setCell ⟨g, k * 4 + 2, none⟩ (.int .i64 M.sB)).setCell ⟨g, k * 4 + 3, none⟩ (.int .i64 M.tries)) :=
        (((hB.setCell (p := ⟨g, k * 4 + 0, none⟩) (Nat.le_refl _) _).setCell (p := ⟨g, k * 4 + 1, none⟩) (Nat.le_refl _) _).setCell (p := ⟨g, k * 4 + 2, none⟩) (Nat.le_refl _) _).setCell (p := ⟨g, k * 4 + 3, none⟩) (Nat.le_refl _) _
      have HP := hide P
      have HBB := hide BB
      clear P BB hz hMs hM hblk q0 q1 q2 q3
      have gq : g ≠ q := by omega
      go_wp2_with fail
      go_roundw
      case rel => exact ⟨k + 1, by omega, by go_num, unhide HP, unhide HBB⟩
      case measure => simp [intOf]; omega
    · obtain rfl : k = l := by omega
      have hb2 : wr.heap[g]? = some (.cells (rowsOf St.row (ms.map Mach.st)).toArray 33) := by rw [hblk, unhide HFIN]
      have HB2 := hide hb2
      clear hblk hb2 hkl
      go_wp2_with fail
      go_ret
      exact ⟨rfl, unhide HB2, hB⟩
end Go.Proofs.Ytkgeapmafpeapaa
