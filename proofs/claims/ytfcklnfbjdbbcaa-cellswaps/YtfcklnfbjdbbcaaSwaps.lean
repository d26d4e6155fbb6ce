/-
  CellSwaps: of swaps from one value, one behind the other, just the first is done; counting by swaps counts each once. No conditions.
-/
import Derived.Test.YtfcklnfbjdbbcaaWithin
import Derived.ProofKit
import Derived.OpenShut
import Derived.ShutString
import Derived.ChangeOld
namespace Go.Proofs.Ytfcklnfbjdbbcaa.cellSwaps
open Go.ChangeShapes Go.WideShapes Go.ChangeAt Go.RowKit
open Go.ChangeMaps (open_string shut_string)

theorem own : ownKnob Try.prog.godebug = none := by kernel_rfl
theorem laidOut : laidOutB Try.prog = true := by kernel_rfl

/-- A slice of integers that came in. -/
def IsRow (k : IntKind) (w : World) (a : Option Addr) (len cap : Nat) (zs : List Int) : Prop :=
  (a = none ∧ len = 0 ∧ cap = 0 ∧ zs = []) ∨
  ∃ x, a = some x ∧ len ≤ cap ∧ cap ≤ maxLen ∧ zs.length = cap ∧ (∀ i, i < zs.length → w.cell? (x.add i) = some (.int k (zs.getD i 0))) ∧ ∀ n ∈ zs, (Lit.int k n).wf = true

/-- What the rounds ask of it: its cells below its length. -/
theorem IsRow.cells {w : World} {a : Option Addr} {len cap : Nat} {zs : List Int} (h : IsRow .i64 w a len cap zs) :
    len ≤ maxLen ∧ ∀ i, i < len → ∃ b off z, a = some ⟨b, off, none⟩ ∧ b < w.heap.size ∧ w.cell? ⟨b, off + i, none⟩ = some (.int .i64 z) := by
  rcases h with ⟨rfl, rfl, rfl, rfl⟩ | ⟨x, rfl, h1, h2, h3, h4, _⟩
  · exact ⟨Nat.zero_le _, fun i hi => absurd hi (Nat.not_lt_zero _)⟩
  · refine ⟨Nat.le_trans h1 h2, fun i hi => ?_⟩
    have h0 := h4 0 (by omega)
    have hi' := h4 i (by omega)
    obtain ⟨b, off, sp⟩ := x
    have hsp : sp = none := by
      have e : (⟨b, off, sp⟩ : Addr).add 0 = ⟨b, off, sp⟩ := rfl
      rw [e] at h0
      unfold World.cell? at h0
      cases sp with
      | none => rfl
      | some s => cases hq : w.heap[b]? with
        | none => simp [hq] at h0
        | some o => cases o <;> simp [hq] at h0
    subst hsp
    have e : (⟨b, off, none⟩ : Addr).add i = ⟨b, off + i, none⟩ := by unfold Addr.add; split <;> simp_all
    rw [e] at hi'
    exact ⟨b, off, _, rfl, cell_lt hi', hi'⟩

set_option maxRecDepth 100000 in
set_option maxHeartbeats 1000000 in
theorem walk (a0 : Int) (a1 : Option Addr) (len1 cap1 : Nat) (z1 : List Int) (w : World) (w1 : IsRow .i64 w a1 len1 cap1 z1) :
    Calls Try.prog 7 #[.int .i64 a0, .slice a1 len1 cap1] w fun e w' => e = .returned (.bool true) ∧ Below w.heap.size w w' := by
  obtain ⟨hml, hrow⟩ := w1.cells
  unfold maxLen at hml
  have HR := hide hrow
  clear hrow w1
  go_enter Try.func7, Try.ntmps7
  go_wp2_with fail
  refine (new_i 1 (by omega) (by omega) _).mono ?_
  rintro e w2 ⟨rfl, hM2, hB2⟩
  replace hM2 : Mem w2 (w.heap.size + 1) w.heap.size 1 [0] 0 0 0 0 0 false := hM2
  go_wp2_with fail
  refine (within_any a0 60 _ (by omega) (by omega)).mono ?_
  rintro e w3 ⟨⟨n, n0, n1, rfl⟩, rfl⟩
  go_wp2_with fail
  go_loopw [7, 8] (fun dn i wr => ∃ (k d : Nat) (kk aa oo vv : Int) (dd : Bool), (k : Int) ≤ n ∧ d ≤ k ∧ i = .int .i64 k ∧ dn = .int .i64 d ∧ Mem wr (w.heap.size + 1) w.heap.size 1 [(d : Int)] k kk aa oo vv dd ∧ Below w.heap.size w wr) (fun _ i _ => (n - intOf i).toNat)
  case atStart => exact ⟨0, 0, 0, 0, 0, 0, false, by omega, by omega, rfl, rfl, hM2, hB2⟩
  case round =>
    obtain ⟨k, d, kk, aa, oo, vv, dd, hk, hd, rfl, rfl, hMr, hBr⟩ := hrel
    clear hM2 hB2
    by_cases hlt : (k : Int) < n
    · have hcast : (k : Int) + 1 = ((k + 1 : Nat) : Int) := by omega
      have HC := hide hcast
      clear hcast
      have hcell : k < len1 → ∃ b off z, a1 = some ⟨b, off, none⟩ ∧ wr.cell? ⟨b, off + k, none⟩ = some (.int .i64 z) := fun h => by
        obtain ⟨b, off, z, e1, e2, e3⟩ := unhide HR k h
        exact ⟨b, off, z, e1, (hBr.cell (p := ⟨b, off + k, none⟩) e2).trans e3⟩
      by_cases hkl : k < len1
      · obtain ⟨b, off, z, rfl, hz⟩ := hcell hkl
        have hj1 : (k : Int) < (len1 : Int) := by omega
        by_cases hm : z.tmod 2 = 0
        · have hm1 : (z.tmod 2 == 0) = true := by simp [hm]
          have hne : ((d : Int) - 1 == (d : Int)) = false := by simp; omega
          clear hm
          go_wp2_with fail
          refine (swap_e _ _ _ 0 _ k _ _ _ _ _ (d - 1) d _ hMr (by omega) (by omega) (by omega) (by omega) d d false _ ((k + 1 : Nat) : Int) rfl (by unfold nwOf; simp) (by unfold dnOf; simp; omega) rfl (unhide HC)).mono ?_
          rintro e w5 ⟨rfl, hM5, hF5⟩
          go_wp2
          go_roundw
          case rel =>
            have := hBr.size
            exact ⟨k + 1, d, _, _, _, _, _, by omega, by omega, by go_num, rfl, hM5, hBr.trans (hF5.below (by omega) (by omega) (by omega))⟩
          case measure => simp [intOf]; omega
        · have hm1 : (z.tmod 2 == 0) = false := by simp [hm]
          clear hm
          go_wp2_with fail
          refine (swap_e _ _ _ 0 _ k _ _ _ _ _ d (d + 1) _ hMr (by omega) (by omega) (by omega) (by omega) d (d + 1) true _ ((k + 1 : Nat) : Int) rfl (by unfold nwOf; simp) (by unfold dnOf; simp) rfl (unhide HC)).mono ?_
          rintro e w5 ⟨rfl, hM5, hF5⟩
          go_wp2
          go_roundw
          case rel =>
            have := hBr.size
            exact ⟨k + 1, d + 1, _, _, _, _, _, by omega, by omega, by go_num, by go_num, by simpa using hM5, hBr.trans (hF5.below (by omega) (by omega) (by omega))⟩
          case measure => simp [intOf]; omega
      · have hj1 : ¬ (k : Int) < (len1 : Int) := by omega
        go_wp2_with fail
        refine (swap_e _ _ _ 0 _ k _ _ _ _ _ d (d + 1) _ hMr (by omega) (by omega) (by omega) (by omega) d (d + 1) true _ ((k + 1 : Nat) : Int) rfl (by unfold nwOf; simp) (by unfold dnOf; simp) rfl (unhide HC)).mono ?_
        rintro e w5 ⟨rfl, hM5, hF5⟩
        go_wp2
        go_roundw
        case rel =>
          have := hBr.size
          exact ⟨k + 1, d + 1, _, _, _, _, _, by omega, by omega, by go_num, by go_num, by simpa using hM5, hBr.trans (hF5.below (by omega) (by omega) (by omega))⟩
        case measure => simp [intOf]; omega
    · have hkn : (k : Int) = n := by omega
      have HN := hide hkn
      clear hkn
      go_wp2_with fail
      refine (load_e _ _ _ 0 _ k _ _ _ _ _ _ hMr (by omega) (by omega) (by omega) (by omega) d (n + 1) rfl (by rw [unhide HN])).mono ?_
      rintro e w4 ⟨rfl, hM4, hF4⟩
      go_wp2_with fail
      refine (steps_any _ _ _ _ _ _ _ _ _ _ _ hM4).mono ?_
      rintro e w5 ⟨rfl, rfl⟩
      go_wp2_with fail
      refine (known_true _).mono ?_
      rintro e w6 ⟨rfl, hB6⟩
      go_wp2
      go_ret
      have z1 := hBr.size
      have z2 := hF4.size
      exact ⟨rfl, (hBr.trans (hF4.below (by omega) (by omega) (by omega))).trans (hB6.mono (by omega))⟩

set_option maxRecDepth 100000 in
theorem lifted (os : Os) (started : os.Started) (H : Type) (enc : TypeId × Value → H) :
    ReturnsInHanded {} Try.checked os 7 .any (Rows.cellSwapsSpec.pre6 enc Try.prog Try.f7 Rows.cellSwapsRow.domain false) (Rows.cellSwapsSpec.post enc Try.prog Try.f7 false true false false) := by
  refine returnsInHanded_of_change (C := Try.checked) own started (by kernel_rfl) Try.func7
    (ChangeSpec.witness6 (enc := enc) (C := Try.checked) false ⟨#[], #[.int .i64 0, .slice none 0 0], []⟩ 8 (by kernel_rfl) (by kernel_rfl) (by kernel_rfl) (by kernel_rfl)) ?_
  intro W base args ds gs before hval0 hW hcnd _
  have hval : ∀ (j : Nat) t v, Try.f7.params[j]? = some t → args[j]? = some v → Value.okWide Try.prog W .any base t v := hval0
  have hW' := hW
  obtain ⟨p, q, hA0, hV, rfl, hfz, hnd⟩ := hW
  have hA : DataW.TrodAll enc Try.prog W 0 (fun _ => true) true Try.f7.params.toList args.toList ds p := hA0
  rw [Try.params7] at hA hval
  obtain ⟨v0, vs0, d0, ds0, p0, q0, hargs, rfl, rfl, h0, r0⟩ := trodAll_cons hA
  obtain ⟨v1, vs1, d1, ds1, p1, q1, rfl, rfl, rfl, h1, r1⟩ := trodAll_cons r0
  obtain ⟨rfl, rfl, rfl⟩ := trodAll_nil r1
  obtain rfl : args = #[v0, v1] := by cases args; simp_all
  obtain ⟨rfl, rfl⟩ := trodVars_none hV
  obtain ⟨a0, rfl, rfl, rfl, w0⟩ := open_int Try.underlying3 (hval 0 3 v0 rfl rfl) h0
  obtain ⟨a1, len1, cap1, rfl⟩ := okWide_slice Try.underlying54 (hval 1 54 v1 rfl rfl)
  have k1 := h1
  have lt1 : ∀ x ∈ p1, x.block < W.heap.size := by obtain ⟨m, hm⟩ := k1; exact DataW.trod_lt m _ _ _ hm
  obtain ⟨z1, w1⟩ : ∃ zs, IsRow .i64 W a1 len1 cap1 zs := by
    obtain ⟨fuel, hf⟩ := h1
    rcases open_ints Try.underlying54 Try.underlying3 (by kernel_rfl) hf with ⟨hcs, _⟩ | ⟨x, l, c, zs, hcs, _, hl, hm, hz, _, hcell, hwz⟩
    · simp [Value.cells] at hcs
      obtain ⟨rfl, rfl, rfl⟩ := hcs
      exact ⟨[], .inl ⟨rfl, rfl, rfl, rfl⟩⟩
    · simp [Value.cells] at hcs
      obtain ⟨rfl, rfl, rfl⟩ := hcs
      exact ⟨zs, .inr ⟨_, rfl, hl, hm, by simpa using hz, hcell, hwz⟩⟩
  clear hA0 hval0
  refine (walk a0 a1 len1 cap1 z1 W w1).mono fun e W' ⟨he, bel⟩ => ?_
  subst he
  exact ⟨_, rfl, _, _, _, [], _, [], hW', trodAll_mk1 (shut_bool Try.underlying4 _), (trodAll_cons_mk (shut_int Try.underlying3 w0) (trodAll_cons_mk (Below.trod laidOut (by kernel_rfl) (of_decide_eq_true (by kernel_rfl)) k1 bel lt1) trodAll_mk0)), rfl, bel.frame _, fun h => by cases h⟩

theorem over : Rows.cellSwapsRow.holds Try.pinned (OpenSpec.ofChange Rows.cellSwapsSpec) :=
  OpenClaim.holds_of_wide 7 Try.f7 rfl rfl rfl rfl rfl rfl rfl ⟨rfl, rfl, rfl, rfl, rfl⟩ rfl rfl rfl rfl rfl (by kernel_rfl) Try.func7 (by kernel_rfl)
    (of_decide_eq_true (by kernel_rfl)) (by unfold Func.isWrapper; first | (rw [if_pos (by decide +kernel)]; kernel_rfl) | (rw [if_neg (by decide +kernel)]; exact ⟨rfl, rfl⟩))
    (fun os started H enc _ => lifted os started H enc)

end Go.Proofs.Ytfcklnfbjdbbcaa.cellSwaps

namespace Go.Proofs.Ytfcklnfbjdbbcaa
/-- CellSwaps answers true. -/
theorem cellSwaps_proved : Rows.CellSwapsSaid := cellSwaps.over
#print axioms cellSwaps_proved
end Go.Proofs.Ytfcklnfbjdbbcaa
