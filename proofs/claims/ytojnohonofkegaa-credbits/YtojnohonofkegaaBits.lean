/-
  CredBits: each bit gives just its own right to its own class: the walk, whoever asks.
-/
import Derived.Test.YtojnohonofkegaaBitsP0
import Derived.Test.YtojnohonofkegaaBitsP1
import Derived.Test.YtojnohonofkegaaBitsP2
import Derived.Test.YtojnohonofkegaaBitsP3
namespace Go.Proofs.Ytojnohonofkegaa
open Go.RowKit

theorem pow_fin : ∀ i : Fin 9, wrap64 (2 ^ i.val) = ((2 ^ i.val : Nat) : Int) := by decide +kernel
theorem pow_fin2 : ∀ i : Fin 9, wrap64 (2 ^ min (IntKind.u64.wrap (i.val : Int)).toNat 64) = ((2 ^ i.val : Nat) : Int) := by decide +kernel
theorem bit_k (cu cg u g : Int) (i : Nat) (hi : i < 9) (q : Int) (k : Nat) (hk : k < 3) (z : Int) (hz : z = ((2 ^ k : Nat) : Int)) (h0 : (cu == 0) = false) (hq : 3 * cls cu cg u g + k = q) :
    may cu cg ((2 ^ i : Nat) : Int) u g z = ((i : Int) == q) := by
  rw [hz, may_bit cu cg u g i k hi hk, h0, Bool.false_or, hq]
  rfl
theorem bit_r (cu cg u g : Int) (i : Nat) (hi : i < 9) (k : Nat) (hk : k < 3) (z : Int) (hz : z = ((2 ^ k : Nat) : Int)) (h0 : (cu == 0) = true) :
    may cu cg ((2 ^ i : Nat) : Int) u g z = true := by
  rw [hz, may_bit cu cg u g i k hi hk, h0, Bool.true_or]
theorem cls_own {cu cg u g : Int} (h1 : (cu == u) = true) : cls cu cg u g = 2 := by
  unfold cls
  rw [if_pos (by simpa using h1)]
theorem cls_grp {cu cg u g : Int} (h1 : (cu == u) = false) (h2 : (cg == g) = true) : cls cu cg u g = 1 := by
  unfold cls
  rw [if_neg (by simpa using h1), if_pos (by simpa using h2)]
theorem cls_oth {cu cg u g : Int} (h1 : (cu == u) = false) (h2 : (cg == g) = false) : cls cu cg u g = 0 := by
  unfold cls
  rw [if_neg (by simpa using h1), if_neg (by simpa using h2)]
theorem bits_p (cu cg u g b : Int) (w : World) (hb0 : 0 ≤ b) (hb1 : b ≤ 9223372036854775807) : Calls Try.prog 6 #[Cr cu cg, I u, I g, I b] w fun e w' => e = .returned (.bool true) ∧ Below w.heap.size w w' := by
  obtain ⟨i, hi, hbv⟩ : ∃ i : Nat, i < 9 ∧ b % 9 = (i : Int) := by
    exact ⟨(b % 9).toNat, by omega, by omega⟩
  have hX : wrap64 (2 ^ (b % 9).toNat) = ((2 ^ i : Nat) : Int) := by
    rw [hbv]
    exact pow_fin ⟨i, hi⟩
  cases h0 : cu == 0 <;> cases h1 : cu == u <;> cases h2 : cg == g
  · exact bitspoff cu cg u g b w hb0 hb1 _ _ hbv hX (bit_k cu cg u g i hi _ 0 (by omega) _ rfl h0 (by rw [cls_oth h1 h2]; rfl)) (bit_k cu cg u g i hi _ 1 (by omega) _ rfl h0 (by rw [cls_oth h1 h2]; rfl)) (bit_k cu cg u g i hi _ 2 (by omega) _ rfl h0 (by rw [cls_oth h1 h2]; rfl)) h0 h1 h2
  · exact bitspoft cu cg u g b w hb0 hb1 _ _ hbv hX (bit_k cu cg u g i hi _ 0 (by omega) _ rfl h0 (by rw [cls_grp h1 h2]; rfl)) (bit_k cu cg u g i hi _ 1 (by omega) _ rfl h0 (by rw [cls_grp h1 h2]; rfl)) (bit_k cu cg u g i hi _ 2 (by omega) _ rfl h0 (by rw [cls_grp h1 h2]; rfl)) h0 h1 h2
  · exact bitspotf cu cg u g b w hb0 hb1 _ _ hbv hX (bit_k cu cg u g i hi _ 0 (by omega) _ rfl h0 (by rw [cls_own h1]; rfl)) (bit_k cu cg u g i hi _ 1 (by omega) _ rfl h0 (by rw [cls_own h1]; rfl)) (bit_k cu cg u g i hi _ 2 (by omega) _ rfl h0 (by rw [cls_own h1]; rfl)) h0 h1 h2
  · exact bitspott cu cg u g b w hb0 hb1 _ _ hbv hX (bit_k cu cg u g i hi _ 0 (by omega) _ rfl h0 (by rw [cls_own h1]; rfl)) (bit_k cu cg u g i hi _ 1 (by omega) _ rfl h0 (by rw [cls_own h1]; rfl)) (bit_k cu cg u g i hi _ 2 (by omega) _ rfl h0 (by rw [cls_own h1]; rfl)) h0 h1 h2
  · exact bitsprff cu cg u g b w hb0 hb1 _ _ hbv hX (bit_r cu cg u g i hi 0 (by omega) _ rfl h0) (bit_r cu cg u g i hi 1 (by omega) _ rfl h0) (bit_r cu cg u g i hi 2 (by omega) _ rfl h0) h0 h1 h2
  · exact bitsprft cu cg u g b w hb0 hb1 _ _ hbv hX (bit_r cu cg u g i hi 0 (by omega) _ rfl h0) (bit_r cu cg u g i hi 1 (by omega) _ rfl h0) (bit_r cu cg u g i hi 2 (by omega) _ rfl h0) h0 h1 h2
  · exact bitsprtf cu cg u g b w hb0 hb1 _ _ hbv hX (bit_r cu cg u g i hi 0 (by omega) _ rfl h0) (bit_r cu cg u g i hi 1 (by omega) _ rfl h0) (bit_r cu cg u g i hi 2 (by omega) _ rfl h0) h0 h1 h2
  · exact bitsprtt cu cg u g b w hb0 hb1 _ _ hbv hX (bit_r cu cg u g i hi 0 (by omega) _ rfl h0) (bit_r cu cg u g i hi 1 (by omega) _ rfl h0) (bit_r cu cg u g i hi 2 (by omega) _ rfl h0) h0 h1 h2
theorem bits_n (cu cg u g b : Int) (w : World) (hb0 : b < 0) (hb1 : -9223372036854775808 ≤ b) : Calls Try.prog 6 #[Cr cu cg, I u, I g, I b] w fun e w' => e = .returned (.bool true) ∧ Below w.heap.size w w' := by
  obtain ⟨i, hi, hbv⟩ : ∃ i : Nat, i < 9 ∧ -((b + 1).tmod 9) = (i : Int) := by
    have e : (b + 1).tmod 9 = -((-(b + 1)) % 9) := by
      rw [show b + 1 = -(-(b + 1)) by omega, Int.neg_tmod, Int.tmod_eq_emod_of_nonneg (by omega), Int.neg_neg]
    exact ⟨((-(b + 1)) % 9).toNat, by omega, by omega⟩
  have hX : wrap64 (2 ^ min (IntKind.u64.wrap (-((b + 1).tmod 9))).toNat 64) = ((2 ^ i : Nat) : Int) := by
    rw [hbv]
    exact pow_fin2 ⟨i, hi⟩
  cases h0 : cu == 0 <;> cases h1 : cu == u <;> cases h2 : cg == g
  · exact bitsnoff cu cg u g b w hb0 hb1 _ _ hbv hX (bit_k cu cg u g i hi _ 0 (by omega) _ rfl h0 (by rw [cls_oth h1 h2]; rfl)) (bit_k cu cg u g i hi _ 1 (by omega) _ rfl h0 (by rw [cls_oth h1 h2]; rfl)) (bit_k cu cg u g i hi _ 2 (by omega) _ rfl h0 (by rw [cls_oth h1 h2]; rfl)) h0 h1 h2
  · exact bitsnoft cu cg u g b w hb0 hb1 _ _ hbv hX (bit_k cu cg u g i hi _ 0 (by omega) _ rfl h0 (by rw [cls_grp h1 h2]; rfl)) (bit_k cu cg u g i hi _ 1 (by omega) _ rfl h0 (by rw [cls_grp h1 h2]; rfl)) (bit_k cu cg u g i hi _ 2 (by omega) _ rfl h0 (by rw [cls_grp h1 h2]; rfl)) h0 h1 h2
  · exact bitsnotf cu cg u g b w hb0 hb1 _ _ hbv hX (bit_k cu cg u g i hi _ 0 (by omega) _ rfl h0 (by rw [cls_own h1]; rfl)) (bit_k cu cg u g i hi _ 1 (by omega) _ rfl h0 (by rw [cls_own h1]; rfl)) (bit_k cu cg u g i hi _ 2 (by omega) _ rfl h0 (by rw [cls_own h1]; rfl)) h0 h1 h2
  · exact bitsnott cu cg u g b w hb0 hb1 _ _ hbv hX (bit_k cu cg u g i hi _ 0 (by omega) _ rfl h0 (by rw [cls_own h1]; rfl)) (bit_k cu cg u g i hi _ 1 (by omega) _ rfl h0 (by rw [cls_own h1]; rfl)) (bit_k cu cg u g i hi _ 2 (by omega) _ rfl h0 (by rw [cls_own h1]; rfl)) h0 h1 h2
  · exact bitsnrff cu cg u g b w hb0 hb1 _ _ hbv hX (bit_r cu cg u g i hi 0 (by omega) _ rfl h0) (bit_r cu cg u g i hi 1 (by omega) _ rfl h0) (bit_r cu cg u g i hi 2 (by omega) _ rfl h0) h0 h1 h2
  · exact bitsnrft cu cg u g b w hb0 hb1 _ _ hbv hX (bit_r cu cg u g i hi 0 (by omega) _ rfl h0) (bit_r cu cg u g i hi 1 (by omega) _ rfl h0) (bit_r cu cg u g i hi 2 (by omega) _ rfl h0) h0 h1 h2
  · exact bitsnrtf cu cg u g b w hb0 hb1 _ _ hbv hX (bit_r cu cg u g i hi 0 (by omega) _ rfl h0) (bit_r cu cg u g i hi 1 (by omega) _ rfl h0) (bit_r cu cg u g i hi 2 (by omega) _ rfl h0) h0 h1 h2
  · exact bitsnrtt cu cg u g b w hb0 hb1 _ _ hbv hX (bit_r cu cg u g i hi 0 (by omega) _ rfl h0) (bit_r cu cg u g i hi 1 (by omega) _ rfl h0) (bit_r cu cg u g i hi 2 (by omega) _ rfl h0) h0 h1 h2
theorem bits_walk (cu cg u g b : Int) (hw : (Lit.int .i64 b).wf = true) (w : World) : Calls Try.prog 6 #[Cr cu cg, I u, I g, I b] w fun e w' => e = .returned (.bool true) ∧ Below w.heap.size w w' := by
  have h : -9223372036854775808 ≤ b ∧ b ≤ 9223372036854775807 := by
    simp only [Lit.wf, Bool.and_eq_true, decide_eq_true_eq] at hw
    have e1 : IntKind.i64.min = -9223372036854775808 := by decide
    have e2 : IntKind.i64.max = 9223372036854775807 := by decide
    omega
  by_cases hb : b < 0
  · exact bits_n cu cg u g b w hb h.1
  · exact bits_p cu cg u g b w (by omega) h.2
end Go.Proofs.Ytojnohonofkegaa
