/-
  Numbers rise as nodes are made, and never come again.
-/
import Derived.Test.YtiedobpgfhmidabRiseA
import Derived.Test.YtiedobpgfhmidabInB
namespace Go.Proofs.Ytiedobpgfhmidab
open Go.RowKit Go.Maps
set_option maxRecDepth 100000 in
set_option maxHeartbeats 2000000 in
theorem rise_walk (pa : Option Addr) (len cap : Nat) (w : World) (hl : BoolsAt w pa len) : Calls Try.prog 3 #[.slice pa len cap] w fun e w' => e = .returned (.bool true) ∧ Below w.heap.size w w' := by
  have H0 := hide (new_Q 4 0 (by omega) (by omega) w)
  have HK := hide known_any
  have HB := hide hl.2
  have hlen := hl.1
  clear hl
  go_enter Try.func3, Try.ntmps3
  go_wp2_with fail
  refine (unhide H0).mono ?_
  rintro e w1 ⟨t, rfl, T1, B1⟩
  have HR0 : Hid (NR w w1 t 0 2 0) := ⟨⟨_, [], rfl, unhide T1, RR.new⟩, unhide B1⟩
  clear H0 T1 B1
  go_wp2_with fail
  go_loopw [5, 6, 7] (fun nx hv i wr => ∃ x v j : Nat, nx = .int .i64 (x : Int) ∧ hv = .int .i64 (v : Int) ∧ i = .int .i64 (j : Int) ∧ j ≤ 60 ∧ j ≤ len ∧ v ≤ 3 ∧ x ≤ j + 2 ∧ Hid (NR w wr t v x j)) (fun _ _ i _ => 60 - (intOf i).toNat)
  case atStart => exact ⟨2, 0, 0, rfl, rfl, rfl, by omega, by omega, by omega, by omega, HR0⟩
  case round =>
    obtain ⟨x, v, j, rfl, rfl, rfl, hj, hjl, hv, hx, HJ⟩ := hrel
    have hv4 : v = 0 ∨ v = 1 ∨ v = 2 ∨ v = 3 := by omega
    by_cases hlt : j < len ∧ j < 60
    · obtain ⟨b, off, s, rfl, hb, hc⟩ := unhide HB j hlt.1
      have hc1 : wr.cell? ⟨b, off + j, none⟩ = some (.bool s) := (cell_same ((unhide HJ).b.block b hb) _).trans hc
      have l1 : (j : Int) < (len : Int) := by omega
      have l2 : (j : Int) < 60 := by omega
      have l3 : j < 60 := hlt.2
      have l4 : j < len := hlt.1
      clear hlt hc hb HR0 HB HK
      rcases hv4 with rfl | rfl | rfl | rfl
      · cases s with
        | true =>
          go_wp2_with fail
          refine (NR.make (hv := 0) (unhide HJ) l3 (by omega)).mono ?_
          rintro e w2 ⟨rfl, HJ2⟩
          go_wp2_with fail
          refine ⟨⟨x + 1, 1, j + 1, by go_num, by go_num, by go_num, by omega, by omega, by omega, by omega, HJ2⟩, by simp [intOf]; omega⟩
        | false =>
          go_wp2_with fail
          refine (NR.make (hv := 0) (unhide HJ) l3 (by omega)).mono ?_
          rintro e w2 ⟨rfl, HJ2⟩
          go_wp2_with fail
          refine ⟨⟨x + 1, 1, j + 1, by go_num, by go_num, by go_num, by omega, by omega, by omega, by omega, HJ2⟩, by simp [intOf]; omega⟩
      · cases s with
        | true =>
          go_wp2_with fail
          refine (NR.part (hv := 0) (unhide HJ) l3).mono ?_
          rintro e w2 ⟨rfl, HJ2⟩
          go_wp2_with fail
          refine ⟨⟨x, 0, j + 1, by go_num, by go_num, by go_num, by omega, by omega, by omega, by omega, HJ2⟩, by simp [intOf]; omega⟩
        | false =>
          go_wp2_with fail
          refine (NR.make (hv := 1) (unhide HJ) l3 (by omega)).mono ?_
          rintro e w2 ⟨rfl, HJ2⟩
          go_wp2_with fail
          refine ⟨⟨x + 1, 2, j + 1, by go_num, by go_num, by go_num, by omega, by omega, by omega, by omega, HJ2⟩, by simp [intOf]; omega⟩
      · cases s with
        | true =>
          go_wp2_with fail
          refine (NR.part (hv := 1) (unhide HJ) l3).mono ?_
          rintro e w2 ⟨rfl, HJ2⟩
          go_wp2_with fail
          refine ⟨⟨x, 1, j + 1, by go_num, by go_num, by go_num, by omega, by omega, by omega, by omega, HJ2⟩, by simp [intOf]; omega⟩
        | false =>
          go_wp2_with fail
          refine (NR.make (hv := 2) (unhide HJ) l3 (by omega)).mono ?_
          rintro e w2 ⟨rfl, HJ2⟩
          go_wp2_with fail
          refine ⟨⟨x + 1, 3, j + 1, by go_num, by go_num, by go_num, by omega, by omega, by omega, by omega, HJ2⟩, by simp [intOf]; omega⟩
      · cases s with
        | true =>
          go_wp2_with fail
          refine (NR.part (hv := 2) (unhide HJ) l3).mono ?_
          rintro e w2 ⟨rfl, HJ2⟩
          go_wp2_with fail
          refine ⟨⟨x, 2, j + 1, by go_num, by go_num, by go_num, by omega, by omega, by omega, by omega, HJ2⟩, by simp [intOf]; omega⟩
        | false =>
          go_wp2_with fail
          refine (NR.full (hv := 3) (unhide HJ) l3 (by omega)).mono ?_
          rintro e w2 ⟨rfl, HJ2⟩
          go_wp2_with fail
          refine ⟨⟨x, 3, j + 1, by go_num, by go_num, by go_num, by omega, by omega, by omega, by omega, HJ2⟩, by simp [intOf]; omega⟩
    · have HE : Hid (Calls Try.prog 8 #[P0 t, I 1] wr fun e W' => ∃ ad cap, e = .returned (.slice ad v cap) ∧ Hid (Below wr.heap.size wr W')) := NR.names (unhide HJ) (by omega)
      by_cases l1 : j < len
      · have l2 : ¬ (j : Int) < 60 := by omega
        have l3 : (j : Int) < (len : Int) := by omega
        go_wp2_with fail
        refine (unhide HE).mono ?_
        rintro e w2 ⟨ad, cp, rfl, hB2⟩
        go_wp2_with fail
        refine (unhide HK _).mono ?_
        rintro e w3 ⟨rfl, hB3⟩
        have HB3 := hide hB3
        clear hB3
        go_wp2_with fail
        go_ret
        have hb2 := (unhide HJ).b.trans ((unhide hB2).mono (unhide HJ).b.size)
        exact ⟨rfl, hb2.trans ((unhide HB3).mono hb2.size)⟩
      · have l3 : ¬ (j : Int) < (len : Int) := by omega
        go_wp2_with fail
        refine (unhide HE).mono ?_
        rintro e w2 ⟨ad, cp, rfl, hB2⟩
        go_wp2_with fail
        refine (unhide HK _).mono ?_
        rintro e w3 ⟨rfl, hB3⟩
        have HB3 := hide hB3
        clear hB3
        go_wp2_with fail
        go_ret
        have hb2 := (unhide HJ).b.trans ((unhide hB2).mono (unhide HJ).b.size)
        exact ⟨rfl, hb2.trans ((unhide HB3).mono hb2.size)⟩
end Go.Proofs.Ytiedobpgfhmidab
