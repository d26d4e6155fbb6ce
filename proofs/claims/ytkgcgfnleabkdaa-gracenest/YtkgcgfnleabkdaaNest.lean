/-
  GraceNest answers true: sections within sections count as one; an id waits until the outermost is left. It holds for all numbers.
-/
import Derived.Test.YtkgcgfnleabkdaaKeep
import Derived.ProofKit
import Derived.OpenShut
import Derived.ShutString
import Derived.ChangeOld
import Derived.Below
namespace Go.Proofs.Ytkgcgfnleabkdaa.graceNest
open Go.ChangeShapes Go.WideShapes Go.ChangeAt Go.RowKit
open Go.ChangeMaps (open_string shut_string)
set_option linter.unusedVariables false
attribute [local go_sem ↓] Go.wp_at_zero Go.wp_at_succ

theorem own : ownKnob Try.prog.godebug = none := by kernel_rfl
theorem laidOut : laidOutB Try.prog = true := by kernel_rfl

def F1 : Nat → Bool := fun k => decide (k = 1)
theorem ins_one (B : Int) (h : 0 < B) : ins [0, B] = F1 := by
  funext k
  match k with
  | 0 => rfl
  | 1 => simp [ins, F1, h]
  | k + 2 => simp [ins, F1]

set_option maxRecDepth 100000 in
set_option maxHeartbeats 1000000 in
theorem walk (a0 : Int) (a1 : Int) (w : World) :
    Calls Try.prog 6 #[.int .i64 a0, .int .i64 a1] w fun e w' => e = .returned (.bool true) ∧ Below w.heap.size w w' := by
  go_enter Try.func6, Try.ntmps6
  go_wp2_with fail
  refine (new_good 2 (by omega) (by omega) w).mono ?_
  rintro e w1 ⟨rfl, G1, hB1⟩
  generalize hh : w.heap.size = h at *
  have HH := hide hh
  clear hh
  replace G1 : Gr h w1 (h + 1) h 2 [0, ((0 : Nat) : Int)] [] := G1
  go_wp2_with fail
  refine (within_any a0 12 w1 (by omega) (by omega)).mono ?_
  rintro e w1' ⟨⟨r0, hr0, rfl⟩, rfl⟩
  have q0 : (0 : Int) ≤ (r0 : Int) := by omega
  go_wp2_with fail
  refine (within_any a1 (1 + (r0 : Int) - 1) w1' (by omega) (by omega)).mono ?_
  rintro e w1 ⟨⟨r1, hr1, rfl⟩, rfl⟩
  have q1 : (0 : Int) ≤ (r1 : Int) := by omega
  go_wp2_with fail
  obtain ⟨d, hd⟩ : ∃ d : Nat, 1 + (r0 : Int) = (d : Int) := ⟨r0 + 1, by omega⟩
  obtain ⟨m, hm⟩ : ∃ m : Nat, 1 + (r1 : Int) = (m : Int) := ⟨r1 + 1, by omega⟩
  have hmd : m ≤ d := by omega
  have hm1 : 1 ≤ m := by omega
  have hd13 : d ≤ 13 := by omega
  rw [hd, hm]
  clear hd hm
  have HB1 := hide hB1
  have HG1 := hide G1
  clear G1 hB1
  go_loopw [7] (fun i wr => ∃ k : Nat, k ≤ m ∧ i = .int .i64 k ∧ Gr h wr (h + 1) h 2 [0, (k : Int)] [] ∧ Fr h (h + 1) h w1 wr) (fun i _ => m - (intOf i).toNat)
  case atStart => exact ⟨0, Nat.zero_le _, rfl, unhide HG1, Fr.refl _ _ _ _⟩
  case round =>
    obtain ⟨k, hk, rfl, G, F⟩ := hrel
    by_cases hkn : k < m
    · have j1 : (k : Int) < (m : Int) := by omega
      have j13 : (k : Int) ≤ 13 := by omega
      have j0 : (0 : Int) ≤ (k : Int) := by omega
      have HE := hide (enter_yes h (h + 1) h 2 1 (k : Int) _ _ wr G rfl (by omega) (by omega))
      have HF := hide F
      clear G F
      go_wp2_with fail
      refine (unhide HE).mono ?_
      rintro e w2 ⟨rfl, G2, F2⟩
      have HG2 := hide G2
      have HF2 := hide F2
      clear G2 F2
      go_wp2_with fail
      go_roundw
      case rel => exact ⟨k + 1, by omega, by go_num, (unhide HG2).to (by simp) rfl, (unhide HF).trans (unhide HF2)⟩
      case measure => simp [intOf]; omega
    · obtain rfl : k = m := by omega
      have j13 : (k : Int) ≤ 13 := by omega
      have HD := hide (defer_ok h (h + 1) h 2 5 _ [] wr G (by simp))
      have HF := hide F
      clear G F
      go_wp2_with fail
      refine (unhide HD).mono ?_
      rintro e w2 ⟨rfl, G2, F2⟩
      rw [ins_one (k : Int) (by omega)] at G2
      have HG2 := hide G2
      have HB2 := hide ((unhide HB1).trans ((unhide HF).trans F2).below)
      clear G2 F2 HF HD HB1 HG1
      go_wp2_with fail
      go_loopw [8] (fun i wr => ∃ k' : Nat, k ≤ k' ∧ k' ≤ d ∧ i = .int .i64 k' ∧ Gr h wr (h + 1) h 2 [0, (k' : Int)] [⟨5, F1⟩] ∧ Fr h (h + 1) h w2 wr) (fun i _ => d - (intOf i).toNat)
      case atStart => exact ⟨k, Nat.le_refl _, hmd, rfl, unhide HG2, Fr.refl _ _ _ _⟩
      case round =>
        obtain ⟨k', hk1, hk2, rfl, G, F⟩ := hrel
        by_cases hkd : k' < d
        · have i1 : (k' : Int) < (d : Int) := by omega
          have i13 : (k' : Int) ≤ 13 := by omega
          have i0 : (0 : Int) ≤ (k' : Int) := by omega
          have HE := hide (enter_yes h (h + 1) h 2 1 (k' : Int) _ _ wr G rfl (by omega) (by omega))
          have HF := hide F
          clear G F
          go_wp2_with fail
          refine (unhide HE).mono ?_
          rintro e w3 ⟨rfl, G3, F3⟩
          have HG3 := hide G3
          have HF3 := hide F3
          clear G3 F3
          go_wp2_with fail
          go_roundw
          case rel => exact ⟨k' + 1, by omega, by omega, by go_num, (unhide HG3).to (by simp) rfl, (unhide HF).trans (unhide HF3)⟩
          case measure => simp [intOf]; omega
        · obtain rfl : k' = d := by omega
          have HG3 := hide G
          have HB3 := hide ((unhide HB2).trans F.below)
          clear G F HG2 HB2
          go_wp2_with fail
          go_loopw [9] (fun i wr => ∃ j : Nat, j ≤ k' ∧ i = .int .i64 j ∧ ∃ ws, Gr h wr (h + 1) h 2 [0, ((k' - j : Nat) : Int)] ws ∧ (j < k' → ws = [⟨5, F1⟩]) ∧ (j = k' → ws = [⟨5, put F1 1 false⟩]) ∧ Below h w wr) (fun i _ => k' - (intOf i).toNat)
          case atStart => exact ⟨0, Nat.zero_le _, rfl, _, unhide HG3, fun _ => rfl, fun h => by omega, unhide HB3⟩
          case round =>
            obtain ⟨j, hj, rfl, ws, G, e1, e2, B⟩ := hrel
            clear HG3 HB3
            by_cases hjd : j < k'
            · obtain rfl := e1 hjd
              have i1 : (j : Int) < (k' : Int) := by omega
              have HP := hide (poll_all h (h + 1) h 2 _ _ wr G (by decide))
              have HB := hide B
              clear G e1 e2 B
              go_wp2_with fail
              refine (unhide HP).mono ?_
              rintro e w4 ⟨v4, rfl, o4, G4, F4⟩
              replace o4 : w4.ownsRow wr.heap.size 2 1 v4 0 [] := o4
              obtain ⟨a4, c4, rfl⟩ := own_form o4
              replace G4 : Gr h w4 (h + 1) h 2 [0, ((k' - j : Nat) : Int)] [⟨5, F1⟩] := G4
              have HBk := hide (blocks_all h (h + 1) h 2 5 _ _ w4 G4 (by decide))
              have HG4 := hide G4
              have HF4 := hide F4
              clear G4 F4 o4 HP
              go_wp2_with fail
              refine (unhide HBk).mono ?_
              rintro e w5 ⟨v5, rfl, o5, B5⟩
              have R5 := hide (Rd.of_own (xs := [1]) o5)
              have HB5 := hide B5
              have hs5 := B5.size
              clear o5 B5 HBk
              go_wp2_with fail
              refine (same32 v5 _ [1] [1] _ ((unhide R5).below ((Below.refl _ _).alloc (Nat.le_refl _) _)) (Rd.one w5 1 3) (by simp)).mono ?_
              rintro e w6 ⟨rfl, B6⟩
              have B56 := (unhide HB5).trans ((((Below.refl w5.heap.size w5).alloc (Nat.le_refl _) (.cells #[.int .i64 1] 3)).trans (B6.mono (by simp))).mono hs5)
              have G6 := (unhide HG4).below B56
              have F6 := (unhide HF4).trans (.of_below B56 (unhide HG4).base_le)
              have HB6 := hide ((unhide HB).trans F6.below)
              clear B6 B56 F6 R5 HB5 hs5 HG4 HF4 HB
              by_cases hlast : j + 1 = k'
              · have G6' : Gr h w6 (h + 1) h 2 [0, 1] [⟨5, F1⟩] := G6.to (by simp; omega) rfl
                have HL := hide (leave_out h (h + 1) h 2 1 _ _ w6 G6' (by decide) rfl)
                clear G6 G6'
                go_wp2_with fail
                refine (unhide HL).mono ?_
                rintro e w7 ⟨rfl, G7, F7⟩
                have HG7 := hide G7
                have HF7 := hide F7
                clear G7 F7
                go_wp2_with fail
                go_roundw
                case rel => exact ⟨j + 1, by omega, by go_num, _, (unhide HG7).to (by simp; omega) rfl, fun h => by omega, fun _ => rfl, (unhide HB6).trans (unhide HF7).below⟩
                case measure => simp [intOf]; omega
              · have HL := hide (leave_deep h (h + 1) h 2 1 ((k' - j : Nat) : Int) _ _ w6 G6 rfl (by omega) (by omega))
                clear G6
                go_wp2_with fail
                refine (unhide HL).mono ?_
                rintro e w7 ⟨rfl, G7, F7⟩
                have HG7 := hide G7
                have HF7 := hide F7
                clear G7 F7
                go_wp2_with fail
                go_roundw
                case rel => exact ⟨j + 1, by omega, by go_num, _, (unhide HG7).to (by simp; omega) rfl, fun _ => rfl, fun h => by omega, (unhide HB6).trans (unhide HF7).below⟩
                case measure => simp [intOf]; omega
            · obtain rfl : j = k' := by omega
              obtain rfl := e2 rfl
              replace G : Gr h wr (h + 1) h 2 [0, 0] [⟨5, put F1 1 false⟩] := G.to (by simp) rfl
              have HP := hide (poll_all h (h + 1) h 2 _ _ wr G (by decide))
              have HB := hide B
              clear G e1 e2 B
              go_wp2_with fail
              refine (unhide HP).mono ?_
              rintro e w4 ⟨v4, rfl, o4, G4, F4⟩
              have R4 := hide (Rd.of_own (xs := [5]) o4)
              replace G4 : Gr h w4 (h + 1) h 2 [0, 0] [] := G4
              have HG4 := hide G4
              have HB4 := hide ((unhide HB).trans F4.below)
              clear G4 F4 o4 HP HB
              go_wp2_with fail
              refine (same64 v4 _ [5] [5] _ ((unhide R4).below ((Below.refl _ _).alloc (Nat.le_refl _) _)) (Rd.one w4 5 2) (by simp)).mono ?_
              rintro e w5 ⟨rfl, B5⟩
              have B45 := ((Below.refl w4.heap.size w4).alloc (Nat.le_refl _) (.cells #[.int .i64 5] 2)).trans (B5.mono (by simp))
              have G5 := (unhide HG4).below B45
              have HB5 := hide ((unhide HB4).trans (B45.mono (unhide HG4).base_le))
              have HL := hide (leave_past h (h + 1) h 2 1 _ _ w5 G5 rfl)
              have HI := hide (inside_all h (h + 1) h 2 _ _ w5 G5)
              have hb5 := G5.base_le
              clear B5 B45 G5 HG4 HB4 R4
              go_wp2_with fail
              refine (unhide HL).mono ?_
              rintro e w5' ⟨rfl, rfl⟩
              go_wp2_with fail
              refine (unhide HI).mono ?_
              rintro e w6 ⟨v6, rfl, o6, B6⟩
              replace o6 : w6.ownsRow w5'.heap.size 3 1 v6 0 [] := o6
              obtain ⟨a6, c6, rfl⟩ := own_form o6
              have HB6 := hide ((unhide HB5).trans (B6.mono hb5))
              have hs6 := B6.size
              clear B6 o6 HI HL
              go_wp2_with fail
              refine (known_true w6).mono ?_
              rintro e w7 ⟨rfl, B7⟩
              have HB7 := hide ((unhide HB6).trans (B7.mono (by omega)))
              clear B7
              go_wp2_with fail
              go_ret
              rw [unhide HH]
              exact ⟨by simp, unhide HB7⟩

set_option maxRecDepth 100000 in
theorem lifted (os : Os) (started : os.Started) (H : Type) (enc : TypeId × Value → H) :
    ReturnsInHanded {} Try.checked os 6 .any (Rows.graceNestSpec.pre6 enc Try.prog Try.f6 Rows.graceNestRow.domain false) (Rows.graceNestSpec.post enc Try.prog Try.f6 false true false false) := by
  refine returnsInHanded_of_change (C := Try.checked) own started (by kernel_rfl) Try.func6
    (ChangeSpec.witness6 (enc := enc) (C := Try.checked) false ⟨#[], #[.int .i64 0, .int .i64 0], []⟩ 8 (by kernel_rfl) (by kernel_rfl) (by kernel_rfl) (by kernel_rfl)) ?_
  intro W base args ds gs before hval0 hW hcnd _
  have hval : ∀ (j : Nat) t v, Try.f6.params[j]? = some t → args[j]? = some v → Value.okWide Try.prog W .any base t v := hval0
  have hW' := hW
  obtain ⟨p, q, hA0, hV, rfl, hfz, hnd⟩ := hW
  have hA : DataW.TrodAll enc Try.prog W 0 (fun _ => true) true Try.f6.params.toList args.toList ds p := hA0
  rw [Try.params6] at hA hval
  obtain ⟨v0, vs0, d0, ds0, p0, q0, hargs, rfl, rfl, h0, r0⟩ := trodAll_cons hA
  obtain ⟨v1, vs1, d1, ds1, p1, q1, rfl, rfl, rfl, h1, r1⟩ := trodAll_cons r0
  obtain ⟨rfl, rfl, rfl⟩ := trodAll_nil r1
  obtain rfl : args = #[v0, v1] := by cases args; simp_all
  obtain ⟨rfl, rfl⟩ := trodVars_none hV
  obtain ⟨a0, rfl, rfl, rfl, w0⟩ := open_int Try.underlying3 (hval 0 3 v0 rfl rfl) h0
  obtain ⟨a1, rfl, rfl, rfl, w1⟩ := open_int Try.underlying3 (hval 1 3 v1 rfl rfl) h1
  clear hA0 hval0
  simp only [List.append_nil] at hW'
  refine (walk a0 a1 W).mono fun e W' ⟨he, hg⟩ => ?_
  subst he
  exact ⟨_, rfl, _, _, _, [], _, [], hW', trodAll_mk1 (shut_bool Try.underlying4 _), (trodAll_cons_mk (shut_int Try.underlying3 w0) (trodAll_cons_mk (shut_int Try.underlying3 w1) trodAll_mk0)), rfl, hg.frame _, fun h => by cases h⟩

theorem over : Rows.graceNestRow.holds Try.pinned (OpenSpec.ofChange Rows.graceNestSpec) :=
  OpenClaim.holds_of_wide 6 Try.f6 rfl rfl rfl rfl rfl rfl rfl ⟨rfl, rfl, rfl, rfl, rfl⟩ rfl rfl rfl rfl rfl (by kernel_rfl) Try.func6 (by kernel_rfl)
    (of_decide_eq_true (by kernel_rfl)) (by unfold Func.isWrapper; first | (rw [if_pos (by decide +kernel)]; kernel_rfl) | (rw [if_neg (by decide +kernel)]; exact ⟨rfl, rfl⟩))
    (fun os started H enc _ => lifted os started H enc)

end Go.Proofs.Ytkgcgfnleabkdaa.graceNest

namespace Go.Proofs.Ytkgcgfnleabkdaa
/-- GraceNest answers true. -/
theorem graceNest_proved : Rows.GraceNestSaid := graceNest.over
#print axioms graceNest_proved
end Go.Proofs.Ytkgcgfnleabkdaa
