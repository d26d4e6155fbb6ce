/-
  The contract of the iterator that parts answers: what stands between slashes is handed to the loop one behind the other, until a round leaves.
-/
import Derived.Test.YtnhddendkolfeaaFly
import Derived.Test.YtnhddendkolfeaaSmall
namespace Go.Proofs.Ytnhddendkolfeaa
open Go.RowKit Go.Shelf
attribute [local go_sem] Oper.semAt_some

def strLen : Value → Nat
  | .string s => s.size
  | _ => 0
theorem strLen_S (l : List UInt8) : strLen (S l) = l.length := by simp [strLen, ByteArray.size]

set_option maxRecDepth 100000 in
set_option maxHeartbeats 1000000 in
theorem iter_go (y x : Nat) (l0 : List UInt8) (W : World) (J : List UInt8 → World → Prop) (E : World → Prop) (hl0 : l0.length ≤ 9223372036854775807) (hJ0 : J l0 W) (hx : W.cell? ⟨x, 0, none⟩ = some (S l0))
    (hD : ∀ r W' n, J r W' → J r (W'.drewN n)) (hS : ∀ r W', J r W' → before r = [] → J (behind r) W')
    (hY : ∀ r W', J r W' → r.length ≤ l0.length → before r ≠ [] → YieldAt Fence.wide (3 - 1) Try.prog y #[S (before r)] W' fun e W2 => (e = .returned (.bool true) ∧ J (behind r) W2) ∨ (e = .returned (.bool false) ∧ E W2)) :
    CallsIn Fence.wide 3 Try.prog 35 #[.func (.yield y) #[] #[], .pointer (some ⟨x, 0, none⟩)] W fun e W' => e = .returned (.tuple #[]) ∧ (J [] W' ∨ E W') := by
  have hro : Fence.wide.round = none := rfl
  have HY := hide hY
  have HD := hide hD
  have HS := hide hS
  clear hY hD hS
  refine callsIn_of_wp Try.func35 rfl trivial ?_ hro
  simp only [Try.ntmps35, List.size_toArray, List.length_cons, List.length_nil, Nat.reduceAdd, Nat.reduceSub, Array.replicate_succ, Array.replicate_zero, List.push_toArray, List.append_toArray, List.nil_append, List.cons_append]
  gi_wp2_with fail
  clear hx
  gi_loopw [3] (fun i wr => ∃ r : List UInt8, r.length ≤ l0.length ∧ i = S r ∧ J r wr) (fun i _ => strLen i)
  case atStart => exact ⟨l0, Nat.le_refl _, rfl, hJ0⟩
  case round =>
    obtain ⟨r, hr, rfl, hJ⟩ := hrel
    by_cases h0 : r = []
    · subst h0
      gi_wp2_with fail
      go_end0
      exact ⟨rfl, .inl hJ⟩
    · have h1 : r.isEmpty = false := by simpa using h0
      have hlt := hide (behind_lt h0)
      by_cases hb : before r = []
      · have HJ := hide (unhide HS r wr hJ hb)
        clear hJ
        gi_wp2_with fail
        refine ⟨trivial, (callsIn_wide.2 (cut_any r _ (by omega))).mono ?_⟩
        rintro e w' ⟨⟨f, rfl⟩, n, rfl⟩
        rw [hb]
        gi_wp2_with fail
        rename_i K2 hK2 x2 h2 w2 q2
        refine ⟨(fun _ _ => trivial), hK2 _ _ ?_⟩
        clear q2 x2 h2 w2
        gi_wp2_with fail
        go_roundw
        case rel => exact ⟨behind r, Nat.le_trans (behind_le r) hr, rfl, unhide HD _ _ _ (unhide HJ)⟩
        case measure => have := unhide hlt; simp [strLen_S]; omega
      · have hbe : (before r).isEmpty = false := by simpa using hb
        have hY := hide fun n => unhide HY r (wr.drewN n) (unhide HD _ _ _ hJ) hr hb
        clear hJ
        gi_wp2_with fail
        refine ⟨trivial, (callsIn_wide.2 (cut_any r _ (by omega))).mono ?_⟩
        rintro e w' ⟨⟨f, rfl⟩, n, rfl⟩
        obtain ⟨fn, tmps, assign, body, hyy, hR⟩ := unhide hY n
        gi_wp2_with fail
        refine hR.mono ?_
        rintro e W2 (⟨rfl, hJ2⟩ | ⟨rfl, hE⟩)
        · gi_wp2_with fail
          go_roundw
          case rel => exact ⟨behind r, Nat.le_trans (behind_le r) hr, rfl, hJ2⟩
          case measure => have := unhide hlt; simp [strLen_S]; omega
        · gi_wp2_with fail
          refine bodyPost_ret (results_none rfl _ _ _) rfl ?_
          exact ⟨rfl, .inr hE⟩
end Go.Proofs.Ytnhddendkolfeaa
