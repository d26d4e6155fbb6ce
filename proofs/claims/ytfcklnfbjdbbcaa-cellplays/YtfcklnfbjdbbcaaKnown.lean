/-
  The contracts of cell's faces at arguments that are plain integers, and: known (chapter 1's runs) answers true and turns nothing that lay.
-/
import Derived.Test.YtfcklnfbjdbbcaaOps
namespace Go.Proofs.Ytfcklnfbjdbbcaa
open Go.RowKit

theorem new_i (n : Int) (h1 : 1 ≤ n) (h2 : n ≤ 64) (w : World) :
    Calls Try.prog 8 #[.int .i64 n] w fun e w' => e = .returned (.tuple #[.pointer (some ⟨w.heap.size + 1, 0, none⟩), .int .i64 0]) ∧
      Mem w' (w.heap.size + 1) w.heap.size n.toNat (List.replicate n.toNat 0) 0 0 0 0 0 false ∧ Below w.heap.size w w' := by
  obtain ⟨k, rfl⟩ := Int.eq_ofNat_of_zero_le (show 0 ≤ n by omega)
  rw [Int.toNat_natCast]
  exact new_yes k (by omega) (by omega) w
theorem new_no (n : Int) (h : n < 1 ∨ 64 < n) (w : World) : Calls Try.prog 8 #[.int .i64 n] w fun e w' => e = .returned (.tuple #[.pointer none, .int .i64 1]) ∧ w' = w := by
  rcases h with h | h
  · exact new_no1 n h w
  · exact new_no2 n h w
theorem store_i (b c n : Nat) (a : Int) (ws : List Int) (st k0 a0 o0 v0 : Int) (d0 : Bool) (v : Int) (w : World) (hM : Mem w b c n ws st k0 a0 o0 v0 d0) (h0 : 0 ≤ a) (h1 : a < n) (s0 : 0 ≤ st) (s1 : st ≤ 1000000) :
    Calls Try.prog 11 #[.pointer (some ⟨b, 0, none⟩), .int .i64 a, .int .i64 v] w fun e w' => e = .returned (.int .i64 0) ∧
      Mem w' b c n (ws.set a.toNat v) (st + 1) 2 a (ws.getD a.toNat 0) v true ∧ Frm b c w w' := by
  obtain ⟨k, rfl⟩ := Int.eq_ofNat_of_zero_le h0
  rw [Int.toNat_natCast]
  exact store_yes b c n k ws st k0 a0 o0 v0 d0 v w hM (by omega) s0 s1
theorem load_i (b c n : Nat) (a : Int) (ws : List Int) (st k0 a0 o0 v0 : Int) (d0 : Bool) (w : World) (hM : Mem w b c n ws st k0 a0 o0 v0 d0) (h0 : 0 ≤ a) (h1 : a < n) (s0 : 0 ≤ st) (s1 : st ≤ 1000000) :
    Calls Try.prog 12 #[.pointer (some ⟨b, 0, none⟩), .int .i64 a] w fun e w' => e = .returned (.tuple #[.int .i64 (ws.getD a.toNat 0), .int .i64 0]) ∧
      Mem w' b c n ws (st + 1) 1 a (ws.getD a.toNat 0) (ws.getD a.toNat 0) true ∧ Frm b c w w' := by
  obtain ⟨k, rfl⟩ := Int.eq_ofNat_of_zero_le h0
  rw [Int.toNat_natCast]
  exact load_yes b c n k ws st k0 a0 o0 v0 d0 w hM (by omega) s0 s1
theorem swap_i (b c n : Nat) (a : Int) (ws : List Int) (st k0 a0 o0 v0 : Int) (d0 : Bool) (old new : Int) (w : World) (hM : Mem w b c n ws st k0 a0 o0 v0 d0) (h0 : 0 ≤ a) (h1 : a < n) (s0 : 0 ≤ st) (s1 : st ≤ 1000000) :
    Calls Try.prog 13 #[.pointer (some ⟨b, 0, none⟩), .int .i64 a, .int .i64 old, .int .i64 new] w fun e w' => e = .returned (.tuple #[.bool (dnOf 3 old (ws.getD a.toNat 0)), .int .i64 0]) ∧
      Mem w' b c n (ws.set a.toNat (nwOf 3 old new (ws.getD a.toNat 0))) (st + 1) 3 a (ws.getD a.toNat 0) (nwOf 3 old new (ws.getD a.toNat 0)) (dnOf 3 old (ws.getD a.toNat 0)) ∧ Frm b c w w' := by
  obtain ⟨k, rfl⟩ := Int.eq_ofNat_of_zero_le h0
  rw [Int.toNat_natCast]
  exact swap_any b c n k ws st k0 a0 o0 v0 d0 old new w hM (by omega) s0 s1

/-- Swap, Store and Load with what they come to named ahead. -/
theorem swap_e (b c n : Nat) (a : Int) (ws : List Int) (st k0 a0 o0 v0 : Int) (d0 : Bool) (old new : Int) (w : World) (hM : Mem w b c n ws st k0 a0 o0 v0 d0) (h0 : 0 ≤ a) (h1 : a < n) (s0 : 0 ≤ st) (s1 : st ≤ 1000000)
    (held nw : Int) (dn : Bool) (ws' : List Int) (st' : Int) (e1 : ws.getD a.toNat 0 = held) (e2 : nwOf 3 old new held = nw) (e3 : dnOf 3 old held = dn) (e4 : ws.set a.toNat nw = ws') (e5 : st + 1 = st') :
    Calls Try.prog 13 #[.pointer (some ⟨b, 0, none⟩), .int .i64 a, .int .i64 old, .int .i64 new] w fun e w' => e = .returned (.tuple #[.bool dn, .int .i64 0]) ∧
      Mem w' b c n ws' st' 3 a held nw dn ∧ Frm b c w w' := by
  have h := swap_i b c n a ws st k0 a0 o0 v0 d0 old new w hM h0 h1 s0 s1
  rw [e1, e2, e3, e4, e5] at h
  exact h
theorem store_e (b c n : Nat) (a : Int) (ws : List Int) (st k0 a0 o0 v0 : Int) (d0 : Bool) (v : Int) (w : World) (hM : Mem w b c n ws st k0 a0 o0 v0 d0) (h0 : 0 ≤ a) (h1 : a < n) (s0 : 0 ≤ st) (s1 : st ≤ 1000000)
    (held : Int) (ws' : List Int) (st' : Int) (e1 : ws.getD a.toNat 0 = held) (e4 : ws.set a.toNat v = ws') (e5 : st + 1 = st') :
    Calls Try.prog 11 #[.pointer (some ⟨b, 0, none⟩), .int .i64 a, .int .i64 v] w fun e w' => e = .returned (.int .i64 0) ∧ Mem w' b c n ws' st' 2 a held v true ∧ Frm b c w w' := by
  have h := store_i b c n a ws st k0 a0 o0 v0 d0 v w hM h0 h1 s0 s1
  rw [e1, e4, e5] at h
  exact h
theorem load_e (b c n : Nat) (a : Int) (ws : List Int) (st k0 a0 o0 v0 : Int) (d0 : Bool) (w : World) (hM : Mem w b c n ws st k0 a0 o0 v0 d0) (h0 : 0 ≤ a) (h1 : a < n) (s0 : 0 ≤ st) (s1 : st ≤ 1000000)
    (held : Int) (st' : Int) (e1 : ws.getD a.toNat 0 = held) (e5 : st + 1 = st') :
    Calls Try.prog 12 #[.pointer (some ⟨b, 0, none⟩), .int .i64 a] w fun e w' => e = .returned (.tuple #[.int .i64 held, .int .i64 0]) ∧ Mem w' b c n ws st' 1 a held held true ∧ Frm b c w w' := by
  have h := load_i b c n a ws st k0 a0 o0 v0 d0 w hM h0 h1 s0 s1
  rw [e1, e5] at h
  exact h

set_option maxRecDepth 100000 in
set_option maxHeartbeats 400000 in
theorem known_true (w : World) : Calls Try.prog 15 #[] w fun e w' => e = .returned (.bool true) ∧ Below w.heap.size w w' := by
  go_enter Try.func15, Try.ntmps15
  go_wp2_with fail
  refine (new_i 2 (by omega) (by omega) _).mono ?_
  rintro e w1 ⟨rfl, hM1, hB1⟩
  go_wp2_with fail
  refine (swap_e _ _ 2 0 [0, 0] 0 0 0 0 0 false 0 7 _ hM1 (by omega) (by omega) (by omega) (by omega) 0 7 true [7, 0] 1 rfl rfl rfl rfl rfl).mono ?_
  rintro e w2 ⟨rfl, hM2, hF2⟩
  go_wp2_with fail
  refine (swap_e _ _ 2 0 [7, 0] 1 _ _ _ _ _ 0 8 _ hM2 (by omega) (by omega) (by omega) (by omega) 7 7 false [7, 0] 2 rfl rfl rfl rfl rfl).mono ?_
  rintro e w3 ⟨rfl, hM3, hF3⟩
  go_wp2_with fail
  refine (load_no _ _ 2 99 _ hM3.cells.1 (by omega)).mono ?_
  rintro e w4 ⟨rfl, hB4⟩
  have hM4 := hM3.below hB4
  go_wp2_with fail
  refine (steps_any _ _ _ _ _ _ _ _ _ _ _ hM4).mono ?_
  rintro e w5 ⟨rfl, rfl⟩
  go_wp2
  go_ret
  have hs := hB1.size
  have hs2 := hF2.size
  have hs3 := hF3.size
  exact ⟨rfl, ((hB1.trans (hF2.below (by omega) (by omega) (by omega))).trans (hF3.below (by omega) (by omega) (by omega))).trans (hB4.mono (by omega))⟩

end Go.Proofs.Ytfcklnfbjdbbcaa
