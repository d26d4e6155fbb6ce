/-
  The contracts of a machine's small methods: enter, again, toil, loaded, swapped, loadCount.
-/
import Derived.Test.YtkgeapmafpeapaaSys
namespace Go.Proofs.Ytkgeapmafpeapaa
open Go.RowKit

theorem Sys.n64 {W : World} {b c q n : Nat} {ws : List Int} {st : Int} {ms : List Mach} (h : Sys W b c q n ws st ms) : n ≤ 64 := by obtain ⟨k, a, o, v, d, h⟩ := h.mem; exact h.hi
theorem Sys.wlen {W : World} {b c q n : Nat} {ws : List Int} {st : Int} {ms : List Mach} (h : Sys W b c q n ws st ms) : ws.length = n := by obtain ⟨k, a, o, v, d, h⟩ := h.mem; exact h.len

set_option maxHeartbeats 400000 in
theorem enter_else (b c q n i : Nat) (ws : List Int) (st : Int) (ms : List Mach) (M : Mach) (nx : Int) (w : World) (hS : Sys w b c q n ws st ms) (hi : ms[i]? = some M) (hn : ¬ nx = 3) :
    Calls Try.prog 44 #[.pointer (some ⟨q, 15 * i, none⟩), .int .i64 nx] w fun e w' => e = .returned (.tuple #[]) ∧ Sys w' b c q n ws st (ms.set i { M with next := nx }) ∧ Frq b c q w w' := by
  have R2 := hS.put hi 10 (by omega) (.int .i64 nx) { M with next := nx } rfl
  have F2 := (Frq.refl b c q w).set (15 * i + 10) (.int .i64 nx)
  obtain ⟨c0, c1, c2, c3, c4, c5, c6, c7, c8, c9, c10, c11, c12, c13, c14, fr⟩ := hS.cells hi
  generalize 15 * i = p at *
  have R := hide R2
  have F := hide F2
  clear R2 F2
  have hn1 : (nx == 3) = false := by simp [hn]
  go_enter Try.func44, Try.ntmps44
  go_wp2
  go_end0
  exact ⟨rfl, unhide R, unhide F⟩

theorem enter_any (b c q n i : Nat) (ws : List Int) (st : Int) (ms : List Mach) (M : Mach) (nx : Int) (w : World) (hS : Sys w b c q n ws st ms) (hi : ms[i]? = some M) :
    Calls Try.prog 44 #[.pointer (some ⟨q, 15 * i, none⟩), .int .i64 nx] w fun e w' => e = .returned (.tuple #[]) ∧ Sys w' b c q n ws st (ms.set i (M.enter nx)) ∧ Frq b c q w w' := by
  unfold Mach.enter
  by_cases h : nx = 3
  · subst h; rw [if_pos rfl]; exact enter_work b c q n i ws st ms M w hS hi
  · rw [if_neg h]; exact enter_else b c q n i ws st ms M nx w hS hi h

set_option maxHeartbeats 400000 in
theorem again_any (b c q n i : Nat) (ws : List Int) (st : Int) (ms : List Mach) (M : Mach) (w : World) (hS : Sys w b c q n ws st ms) (hi : ms[i]? = some M) (t0 : 0 ≤ M.tries) (t1 : M.tries ≤ 1000000) :
    Calls Try.prog 45 #[.pointer (some ⟨q, 15 * i, none⟩)] w fun e w' => e = .returned (.tuple #[]) ∧ Sys w' b c q n ws st (ms.set i M.again) ∧ Frq b c q w w' := by
  have R2 := hS.put hi 9 (by omega) (.int .i64 (M.tries + 1)) { M with tries := M.tries + 1 } rfl
  have F2 := (Frq.refl b c q w).set (15 * i + 9) (.int .i64 (M.tries + 1))
  have K := hide (enter_else b c q n i ws st _ { M with tries := M.tries + 1 } 0 _ R2 (set_get hi _) (by omega))
  obtain ⟨c0, c1, c2, c3, c4, c5, c6, c7, c8, c9, c10, c11, c12, c13, c14, fr⟩ := hS.cells hi
  generalize 15 * i = p at *
  have F := hide F2
  clear R2 F2
  go_enter Try.func45, Try.ntmps45
  go_wp2_with fail
  refine (unhide K).mono ?_
  rintro e w' ⟨rfl, hS', hF'⟩
  go_wp2
  go_end0
  rw [List.set_set] at hS'
  exact ⟨rfl, hS', (unhide F).trans hF'⟩

theorem Sys.load {w : World} {b c q n : Nat} {ws : List Int} {st : Int} {ms : List Mach} (hS : Sys w b c q n ws st ms) (a : Nat) (x : Int) (hx : x = (a : Int)) (ha : a < n) (s0 : 0 ≤ st) (s1 : st ≤ 1000000) (held : Int) (hh : ws.getD a 0 = held) :
    Calls Try.prog 53 #[.pointer (some ⟨b, 0, none⟩), .int .i64 x] w fun e w' => e = .returned (.tuple #[.int .i64 held, .int .i64 0]) ∧ Sys w' b c q n ws (st + 1) ms ∧ Frq b c q w w' := by
  obtain ⟨k, a', o, v, d, hm⟩ := hS.mem
  subst hx
  refine (load_h b c n a ws st k a' o v d w hm ha s0 s1 held hh).mono ?_
  rintro e w' ⟨rfl, hM, hF⟩
  exact ⟨rfl, hS.acc ⟨_, _, _, _, _, hM⟩ hF, .of_frm hF⟩
theorem Sys.store {w : World} {b c q n : Nat} {ws : List Int} {st : Int} {ms : List Mach} (hS : Sys w b c q n ws st ms) (a : Nat) (x v : Int) (hx : x = (a : Int)) (ha : a < n) (s0 : 0 ≤ st) (s1 : st ≤ 1000000) :
    Calls Try.prog 26 #[.pointer (some ⟨b, 0, none⟩), .int .i64 x, .int .i64 v] w fun e w' => e = .returned (.int .i64 0) ∧ Sys w' b c q n (ws.set a v) (st + 1) ms ∧ Frq b c q w w' := by
  obtain ⟨k, a', o, u, d, hm⟩ := hS.mem
  subst hx
  refine (store_h b c n a ws st k a' o u d v w hm ha s0 s1 _ rfl).mono ?_
  rintro e w' ⟨rfl, hM, hF⟩
  exact ⟨rfl, hS.acc ⟨_, _, _, _, _, hM⟩ hF, .of_frm hF⟩
theorem Sys.swap_y {w : World} {b c q n : Nat} {ws : List Int} {st : Int} {ms : List Mach} (hS : Sys w b c q n ws st ms) (a : Nat) (old new : Int) (ha : a < n) (s0 : 0 ≤ st) (s1 : st ≤ 1000000) (hh : ws.getD a 0 = old) :
    Calls Try.prog 52 #[.pointer (some ⟨b, 0, none⟩), .int .i64 (a : Int), .int .i64 old, .int .i64 new] w fun e w' => e = .returned (.tuple #[.bool true, .int .i64 0]) ∧ Sys w' b c q n (ws.set a new) (st + 1) ms ∧ Frq b c q w w' := by
  obtain ⟨k, a', o, u, d, hm⟩ := hS.mem
  refine (Go.Proofs.Ytkgeapmafpeapaa.swap_y b c n a ws st k a' o u d old new w hm ha s0 s1 _ hh rfl).mono ?_
  rintro e w' ⟨rfl, hM, hF⟩
  exact ⟨rfl, hS.acc ⟨_, _, _, _, _, hM⟩ hF, .of_frm hF⟩
theorem Sys.swap_n {w : World} {b c q n : Nat} {ws : List Int} {st : Int} {ms : List Mach} (hS : Sys w b c q n ws st ms) (a : Nat) (old new : Int) (ha : a < n) (s0 : 0 ≤ st) (s1 : st ≤ 1000000) (hh : ¬ ws.getD a 0 = old) :
    Calls Try.prog 52 #[.pointer (some ⟨b, 0, none⟩), .int .i64 (a : Int), .int .i64 old, .int .i64 new] w fun e w' => e = .returned (.tuple #[.bool false, .int .i64 0]) ∧ Sys w' b c q n ws (st + 1) ms ∧ Frq b c q w w' := by
  obtain ⟨k, a', o, u, d, hm⟩ := hS.mem
  refine (Go.Proofs.Ytkgeapmafpeapaa.swap_n b c n a ws st k a' o u d old new w hm ha s0 s1 _ rfl hh).mono ?_
  rintro e w' ⟨rfl, hM, hF⟩
  exact ⟨rfl, hS.acc ⟨_, _, _, _, _, hM⟩ hF, .of_frm hF⟩

set_option maxHeartbeats 400000 in
theorem loaded_any (b c q n a : Nat) (ws : List Int) (st x : Int) (ms : List Mach) (w : World) (hS : Sys w b c q n ws st ms) (hx : x = (a : Int)) (ha : a < n) (s0 : 0 ≤ st) (s1 : st ≤ 1000000) (held : Int) (hh : ws.getD a 0 = held) :
    Calls Try.prog 48 #[.pointer (some ⟨b, 0, none⟩), .int .i64 x] w fun e w' => e = .returned (.int .i64 held) ∧ Sys w' b c q n ws (st + 1) ms ∧ Frq b c q w w' := by
  have K := hide (hS.load a x hx ha s0 s1 held hh)
  clear hx hh
  go_enter Try.func48, Try.ntmps48
  go_wp2_with fail
  refine (unhide K).mono ?_
  rintro e w' ⟨rfl, hS', hF'⟩
  go_wp2
  go_ret
  exact ⟨rfl, hS', hF'⟩

set_option maxHeartbeats 400000 in
theorem swapped_y (b c q n a : Nat) (ws : List Int) (st old new : Int) (ms : List Mach) (w : World) (hS : Sys w b c q n ws st ms) (ha : a < n) (s0 : 0 ≤ st) (s1 : st ≤ 1000000) (hh : ws.getD a 0 = old) :
    Calls Try.prog 43 #[.pointer (some ⟨b, 0, none⟩), .int .i64 (a : Int), .int .i64 old, .int .i64 new] w fun e w' => e = .returned (.bool true) ∧ Sys w' b c q n (ws.set a new) (st + 1) ms ∧ Frq b c q w w' := by
  have K := hide (hS.swap_y a old new ha s0 s1 hh)
  clear hh
  go_enter Try.func43, Try.ntmps43
  go_wp2_with fail
  refine (unhide K).mono ?_
  rintro e w' ⟨rfl, hS', hF'⟩
  go_wp2
  go_ret
  exact ⟨rfl, hS', hF'⟩
set_option maxHeartbeats 400000 in
theorem swapped_n (b c q n a : Nat) (ws : List Int) (st old new : Int) (ms : List Mach) (w : World) (hS : Sys w b c q n ws st ms) (ha : a < n) (s0 : 0 ≤ st) (s1 : st ≤ 1000000) (hh : ¬ ws.getD a 0 = old) :
    Calls Try.prog 43 #[.pointer (some ⟨b, 0, none⟩), .int .i64 (a : Int), .int .i64 old, .int .i64 new] w fun e w' => e = .returned (.bool false) ∧ Sys w' b c q n ws (st + 1) ms ∧ Frq b c q w w' := by
  have K := hide (hS.swap_n a old new ha s0 s1 hh)
  clear hh
  go_enter Try.func43, Try.ntmps43
  go_wp2_with fail
  refine (unhide K).mono ?_
  rintro e w' ⟨rfl, hS', hF'⟩
  go_wp2
  go_ret
  exact ⟨rfl, hS', hF'⟩

set_option maxHeartbeats 400000 in
theorem toil_any (b c q n i : Nat) (ws : List Int) (st : Int) (ms : List Mach) (M : Mach) (w : World) (hS : Sys w b c q n ws st ms) (hi : ms[i]? = some M) (ha : M.at_ < n) (s0 : 0 ≤ st) (s1 : st ≤ 1000000) (t0 : 0 ≤ M.left) (t1 : M.left ≤ 100) :
    Calls Try.prog 46 #[.pointer (some ⟨q, 15 * i, none⟩), .pointer (some ⟨b, 0, none⟩)] w fun e w' => e = .returned (.tuple #[]) ∧ Sys w' b c q n ws (st + 1) (ms.set i M.toil) ∧ Frq b c q w w' := by
  have R2 := hS.put hi 11 (by omega) (.int .i64 (M.left - 1)) { M with left := M.left - 1 } rfl
  have F2 := (Frq.refl b c q w).set (15 * i + 11) (.int .i64 (M.left - 1))
  have K := hide (R2.load M.at_ _ rfl ha s0 s1 _ rfl)
  obtain ⟨c0, c1, c2, c3, c4, c5, c6, c7, c8, c9, c10, c11, c12, c13, c14, fr⟩ := hS.cells hi
  generalize 15 * i = p at *
  have F := hide F2
  clear R2 F2
  go_enter Try.func46, Try.ntmps46
  go_wp2_with fail
  refine (unhide K).mono ?_
  rintro e w' ⟨rfl, hS', hF'⟩
  go_wp2
  go_end0
  exact ⟨rfl, hS', (unhide F).trans hF'⟩

/-- What loadCount makes of a machine that read v. -/
def Mach.counted (M : Mach) (v nx : Int) : Mach := if v.tmod 2 = 0 then { M with count := v, next := nx } else { M with count := v, tries := M.tries + 1, next := 0 }
end Go.Proofs.Ytkgeapmafpeapaa
