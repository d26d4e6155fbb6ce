/-
  CredBits: bit is not below 0, the root asks.
-/
import Derived.Test.YtojnohonofkegaaBitsA
namespace Go.Proofs.Ytojnohonofkegaa
open Go.RowKit

set_option maxRecDepth 100000 in
set_option maxHeartbeats 4000000 in
theorem bitsprtt (cu cg u g b : Int) (w : World) (hb0 : 0 ≤ b) (hb1 : b ≤ 9223372036854775807) (bv X : Int) (hbv : b % 9 = bv) (hX : wrap64 (2 ^ (b % 9).toNat) = X) (R0 : may cu cg X u g 1 = true) (R1 : may cu cg X u g 2 = true) (R2 : may cu cg X u g 4 = true) (h0 : (cu == 0) = true) (h1 : (cu == u) = true) (h2 : (cg == g) = true) :
    Calls Try.prog 6 #[Cr cu cg, I u, I g, I b] w fun e w' => e = .returned (.bool true) ∧ Below w.heap.size w w' := by
  replace hX := hide hX
  replace hbv := hide hbv
  go_enter Try.func6, Try.ntmps6
  go_wp2_with fail
  refine (may_E (x := true) (may_all cu cg u g) _).mono ?_
  rintro e v1 ⟨rfl, B1⟩
  have L := (lay2 w (CrO cu cg) (StO 0 0 511 u g 0 0)).step B1
  clear B1
  obtain ⟨⟨c0, c1⟩, d0, d1, d2, d3, d4, d5, d6, d7⟩ := L.two
  replace L := L.mode 1 (b := w.heap.size + 1) rfl rfl 0
  obtain ⟨⟨x0, x1⟩, y0, y1, y2, y3, y4, y5, y6, y7⟩ := L.two
  go_wp2_with fail
  refine (may_E (x := true) ((may_none cu cg u g 1 (by simp)).trans h0) _).mono ?_
  rintro e v4 ⟨rfl, B1⟩
  replace L := L.step B1
  clear B1
  clear c0 c1 d0 d1 d2 d3 d4 d5 d6 d7
  clear x0 x1 y0 y1 y2 y3 y4 y5 y6 y7
  obtain ⟨⟨c0, c1⟩, d0, d1, d2, d3, d4, d5, d6, d7⟩ := L.two
  go_wp2_with fail
  replace L := L.mode 1 (b := w.heap.size + 1) rfl rfl (wrap64 (2 ^ (b % 9).toNat))
  rw [unhide hX] at L ⊢
  rw [unhide hbv]
  generalize v4.setCell ⟨w.heap.size + 1, 2, none⟩ (Value.int IntKind.i64 X) = v5 at *
  clear c0 c1 d0 d1 d2 d3 d4 d5 d6 d7 hX hbv hb0 hb1
  have L' : Laid w v5 [CrO cu cg, StO 0 0 X u g 0 0] := L
  clear L
  go_loopw [13] (fun i wr => ∃ k : Nat, k ≤ 3 ∧ i = .int .i64 (k : Int) ∧ Hid (Laid w wr [CrO cu cg, StO 0 0 X u g 0 0])) (fun i _ => 3 - (intOf i).toNat)
  case atStart => exact ⟨0, by omega, rfl, L'⟩
  case round =>
    obtain ⟨k, hk, rfl, hL⟩ := hrel
    obtain ⟨⟨c0, c1⟩, d0, d1, d2, d3, d4, d5, d6, d7⟩ := (unhide hL).two
    obtain rfl | rfl | rfl | rfl : k = 0 ∨ k = 1 ∨ k = 2 ∨ k = 3 := by omega
    · go_wp2_with fail
      refine (may_E R0 _).mono ?_
      rintro e v6 ⟨rfl, B6⟩
      go_wp2_with fail
      exact ⟨⟨1, by omega, rfl, hide ((unhide hL).step B6)⟩, by decide⟩
    · go_wp2_with fail
      refine (may_E R1 _).mono ?_
      rintro e v6 ⟨rfl, B6⟩
      go_wp2_with fail
      exact ⟨⟨2, by omega, rfl, hide ((unhide hL).step B6)⟩, by decide⟩
    · go_wp2_with fail
      refine (may_E R2 _).mono ?_
      rintro e v6 ⟨rfl, B6⟩
      go_wp2_with fail
      exact ⟨⟨3, by omega, rfl, hide ((unhide hL).step B6)⟩, by decide⟩
    · go_wp2_with fail
      refine (known_any _).mono ?_
      rintro e v7 ⟨rfl, B7⟩
      go_wp2_with fail
      go_ret
      exact ⟨rfl, ((unhide hL).step B7).below⟩
set_option maxRecDepth 100000 in
set_option maxHeartbeats 4000000 in
theorem bitsprtf (cu cg u g b : Int) (w : World) (hb0 : 0 ≤ b) (hb1 : b ≤ 9223372036854775807) (bv X : Int) (hbv : b % 9 = bv) (hX : wrap64 (2 ^ (b % 9).toNat) = X) (R0 : may cu cg X u g 1 = true) (R1 : may cu cg X u g 2 = true) (R2 : may cu cg X u g 4 = true) (h0 : (cu == 0) = true) (h1 : (cu == u) = true) (h2 : (cg == g) = false) :
    Calls Try.prog 6 #[Cr cu cg, I u, I g, I b] w fun e w' => e = .returned (.bool true) ∧ Below w.heap.size w w' := by
  replace hX := hide hX
  replace hbv := hide hbv
  go_enter Try.func6, Try.ntmps6
  go_wp2_with fail
  refine (may_E (x := true) (may_all cu cg u g) _).mono ?_
  rintro e v1 ⟨rfl, B1⟩
  have L := (lay2 w (CrO cu cg) (StO 0 0 511 u g 0 0)).step B1
  clear B1
  obtain ⟨⟨c0, c1⟩, d0, d1, d2, d3, d4, d5, d6, d7⟩ := L.two
  replace L := L.mode 1 (b := w.heap.size + 1) rfl rfl 0
  obtain ⟨⟨x0, x1⟩, y0, y1, y2, y3, y4, y5, y6, y7⟩ := L.two
  go_wp2_with fail
  refine (may_E (x := true) ((may_none cu cg u g 1 (by simp)).trans h0) _).mono ?_
  rintro e v4 ⟨rfl, B1⟩
  replace L := L.step B1
  clear B1
  clear c0 c1 d0 d1 d2 d3 d4 d5 d6 d7
  clear x0 x1 y0 y1 y2 y3 y4 y5 y6 y7
  obtain ⟨⟨c0, c1⟩, d0, d1, d2, d3, d4, d5, d6, d7⟩ := L.two
  go_wp2_with fail
  replace L := L.mode 1 (b := w.heap.size + 1) rfl rfl (wrap64 (2 ^ (b % 9).toNat))
  rw [unhide hX] at L ⊢
  rw [unhide hbv]
  generalize v4.setCell ⟨w.heap.size + 1, 2, none⟩ (Value.int IntKind.i64 X) = v5 at *
  clear c0 c1 d0 d1 d2 d3 d4 d5 d6 d7 hX hbv hb0 hb1
  have L' : Laid w v5 [CrO cu cg, StO 0 0 X u g 0 0] := L
  clear L
  go_loopw [13] (fun i wr => ∃ k : Nat, k ≤ 3 ∧ i = .int .i64 (k : Int) ∧ Hid (Laid w wr [CrO cu cg, StO 0 0 X u g 0 0])) (fun i _ => 3 - (intOf i).toNat)
  case atStart => exact ⟨0, by omega, rfl, L'⟩
  case round =>
    obtain ⟨k, hk, rfl, hL⟩ := hrel
    obtain ⟨⟨c0, c1⟩, d0, d1, d2, d3, d4, d5, d6, d7⟩ := (unhide hL).two
    obtain rfl | rfl | rfl | rfl : k = 0 ∨ k = 1 ∨ k = 2 ∨ k = 3 := by omega
    · go_wp2_with fail
      refine (may_E R0 _).mono ?_
      rintro e v6 ⟨rfl, B6⟩
      go_wp2_with fail
      exact ⟨⟨1, by omega, rfl, hide ((unhide hL).step B6)⟩, by decide⟩
    · go_wp2_with fail
      refine (may_E R1 _).mono ?_
      rintro e v6 ⟨rfl, B6⟩
      go_wp2_with fail
      exact ⟨⟨2, by omega, rfl, hide ((unhide hL).step B6)⟩, by decide⟩
    · go_wp2_with fail
      refine (may_E R2 _).mono ?_
      rintro e v6 ⟨rfl, B6⟩
      go_wp2_with fail
      exact ⟨⟨3, by omega, rfl, hide ((unhide hL).step B6)⟩, by decide⟩
    · go_wp2_with fail
      refine (known_any _).mono ?_
      rintro e v7 ⟨rfl, B7⟩
      go_wp2_with fail
      go_ret
      exact ⟨rfl, ((unhide hL).step B7).below⟩
set_option maxRecDepth 100000 in
set_option maxHeartbeats 4000000 in
theorem bitsprft (cu cg u g b : Int) (w : World) (hb0 : 0 ≤ b) (hb1 : b ≤ 9223372036854775807) (bv X : Int) (hbv : b % 9 = bv) (hX : wrap64 (2 ^ (b % 9).toNat) = X) (R0 : may cu cg X u g 1 = true) (R1 : may cu cg X u g 2 = true) (R2 : may cu cg X u g 4 = true) (h0 : (cu == 0) = true) (h1 : (cu == u) = false) (h2 : (cg == g) = true) :
    Calls Try.prog 6 #[Cr cu cg, I u, I g, I b] w fun e w' => e = .returned (.bool true) ∧ Below w.heap.size w w' := by
  replace hX := hide hX
  replace hbv := hide hbv
  go_enter Try.func6, Try.ntmps6
  go_wp2_with fail
  refine (may_E (x := true) (may_all cu cg u g) _).mono ?_
  rintro e v1 ⟨rfl, B1⟩
  have L := (lay2 w (CrO cu cg) (StO 0 0 511 u g 0 0)).step B1
  clear B1
  obtain ⟨⟨c0, c1⟩, d0, d1, d2, d3, d4, d5, d6, d7⟩ := L.two
  replace L := L.mode 1 (b := w.heap.size + 1) rfl rfl 0
  obtain ⟨⟨x0, x1⟩, y0, y1, y2, y3, y4, y5, y6, y7⟩ := L.two
  go_wp2_with fail
  refine (may_E (x := true) ((may_none cu cg u g 1 (by simp)).trans h0) _).mono ?_
  rintro e v4 ⟨rfl, B1⟩
  replace L := L.step B1
  clear B1
  clear c0 c1 d0 d1 d2 d3 d4 d5 d6 d7
  clear x0 x1 y0 y1 y2 y3 y4 y5 y6 y7
  obtain ⟨⟨c0, c1⟩, d0, d1, d2, d3, d4, d5, d6, d7⟩ := L.two
  go_wp2_with fail
  replace L := L.mode 1 (b := w.heap.size + 1) rfl rfl (wrap64 (2 ^ (b % 9).toNat))
  rw [unhide hX] at L ⊢
  rw [unhide hbv]
  generalize v4.setCell ⟨w.heap.size + 1, 2, none⟩ (Value.int IntKind.i64 X) = v5 at *
  clear c0 c1 d0 d1 d2 d3 d4 d5 d6 d7 hX hbv hb0 hb1
  have L' : Laid w v5 [CrO cu cg, StO 0 0 X u g 0 0] := L
  clear L
  go_loopw [13] (fun i wr => ∃ k : Nat, k ≤ 3 ∧ i = .int .i64 (k : Int) ∧ Hid (Laid w wr [CrO cu cg, StO 0 0 X u g 0 0])) (fun i _ => 3 - (intOf i).toNat)
  case atStart => exact ⟨0, by omega, rfl, L'⟩
  case round =>
    obtain ⟨k, hk, rfl, hL⟩ := hrel
    obtain ⟨⟨c0, c1⟩, d0, d1, d2, d3, d4, d5, d6, d7⟩ := (unhide hL).two
    obtain rfl | rfl | rfl | rfl : k = 0 ∨ k = 1 ∨ k = 2 ∨ k = 3 := by omega
    · go_wp2_with fail
      refine (may_E R0 _).mono ?_
      rintro e v6 ⟨rfl, B6⟩
      go_wp2_with fail
      exact ⟨⟨1, by omega, rfl, hide ((unhide hL).step B6)⟩, by decide⟩
    · go_wp2_with fail
      refine (may_E R1 _).mono ?_
      rintro e v6 ⟨rfl, B6⟩
      go_wp2_with fail
      exact ⟨⟨2, by omega, rfl, hide ((unhide hL).step B6)⟩, by decide⟩
    · go_wp2_with fail
      refine (may_E R2 _).mono ?_
      rintro e v6 ⟨rfl, B6⟩
      go_wp2_with fail
      exact ⟨⟨3, by omega, rfl, hide ((unhide hL).step B6)⟩, by decide⟩
    · go_wp2_with fail
      refine (known_any _).mono ?_
      rintro e v7 ⟨rfl, B7⟩
      go_wp2_with fail
      go_ret
      exact ⟨rfl, ((unhide hL).step B7).below⟩
set_option maxRecDepth 100000 in
set_option maxHeartbeats 4000000 in
theorem bitsprff (cu cg u g b : Int) (w : World) (hb0 : 0 ≤ b) (hb1 : b ≤ 9223372036854775807) (bv X : Int) (hbv : b % 9 = bv) (hX : wrap64 (2 ^ (b % 9).toNat) = X) (R0 : may cu cg X u g 1 = true) (R1 : may cu cg X u g 2 = true) (R2 : may cu cg X u g 4 = true) (h0 : (cu == 0) = true) (h1 : (cu == u) = false) (h2 : (cg == g) = false) :
    Calls Try.prog 6 #[Cr cu cg, I u, I g, I b] w fun e w' => e = .returned (.bool true) ∧ Below w.heap.size w w' := by
  replace hX := hide hX
  replace hbv := hide hbv
  go_enter Try.func6, Try.ntmps6
  go_wp2_with fail
  refine (may_E (x := true) (may_all cu cg u g) _).mono ?_
  rintro e v1 ⟨rfl, B1⟩
  have L := (lay2 w (CrO cu cg) (StO 0 0 511 u g 0 0)).step B1
  clear B1
  obtain ⟨⟨c0, c1⟩, d0, d1, d2, d3, d4, d5, d6, d7⟩ := L.two
  replace L := L.mode 1 (b := w.heap.size + 1) rfl rfl 0
  obtain ⟨⟨x0, x1⟩, y0, y1, y2, y3, y4, y5, y6, y7⟩ := L.two
  go_wp2_with fail
  refine (may_E (x := true) ((may_none cu cg u g 1 (by simp)).trans h0) _).mono ?_
  rintro e v4 ⟨rfl, B1⟩
  replace L := L.step B1
  clear B1
  clear c0 c1 d0 d1 d2 d3 d4 d5 d6 d7
  clear x0 x1 y0 y1 y2 y3 y4 y5 y6 y7
  obtain ⟨⟨c0, c1⟩, d0, d1, d2, d3, d4, d5, d6, d7⟩ := L.two
  go_wp2_with fail
  replace L := L.mode 1 (b := w.heap.size + 1) rfl rfl (wrap64 (2 ^ (b % 9).toNat))
  rw [unhide hX] at L ⊢
  rw [unhide hbv]
  generalize v4.setCell ⟨w.heap.size + 1, 2, none⟩ (Value.int IntKind.i64 X) = v5 at *
  clear c0 c1 d0 d1 d2 d3 d4 d5 d6 d7 hX hbv hb0 hb1
  have L' : Laid w v5 [CrO cu cg, StO 0 0 X u g 0 0] := L
  clear L
  go_loopw [13] (fun i wr => ∃ k : Nat, k ≤ 3 ∧ i = .int .i64 (k : Int) ∧ Hid (Laid w wr [CrO cu cg, StO 0 0 X u g 0 0])) (fun i _ => 3 - (intOf i).toNat)
  case atStart => exact ⟨0, by omega, rfl, L'⟩
  case round =>
    obtain ⟨k, hk, rfl, hL⟩ := hrel
    obtain ⟨⟨c0, c1⟩, d0, d1, d2, d3, d4, d5, d6, d7⟩ := (unhide hL).two
    obtain rfl | rfl | rfl | rfl : k = 0 ∨ k = 1 ∨ k = 2 ∨ k = 3 := by omega
    · go_wp2_with fail
      refine (may_E R0 _).mono ?_
      rintro e v6 ⟨rfl, B6⟩
      go_wp2_with fail
      exact ⟨⟨1, by omega, rfl, hide ((unhide hL).step B6)⟩, by decide⟩
    · go_wp2_with fail
      refine (may_E R1 _).mono ?_
      rintro e v6 ⟨rfl, B6⟩
      go_wp2_with fail
      exact ⟨⟨2, by omega, rfl, hide ((unhide hL).step B6)⟩, by decide⟩
    · go_wp2_with fail
      refine (may_E R2 _).mono ?_
      rintro e v6 ⟨rfl, B6⟩
      go_wp2_with fail
      exact ⟨⟨3, by omega, rfl, hide ((unhide hL).step B6)⟩, by decide⟩
    · go_wp2_with fail
      refine (known_any _).mono ?_
      rintro e v7 ⟨rfl, B7⟩
      go_wp2_with fail
      go_ret
      exact ⟨rfl, ((unhide hL).step B7).below⟩
end Go.Proofs.Ytojnohonofkegaa
