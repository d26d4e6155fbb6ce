/-
  The document's own wide, digits, number.
-/
import Derived.Test.YtnkkfomekdipiaaDoorCOps
import Derived.Test.YtnkkfomekdipiaaDoorCText
namespace Go.Proofs.YtnkkfomekdipiaaDoor.Cl
open Go.RowKit
attribute [local go_sem ↓] Go.wp_at_zero Go.wp_at_succ

abbrev dig10 : ByteArray := ⟨#[48, 49, 50, 51, 52, 53, 54, 55, 56, 57]⟩
theorem dig10_cut : ∀ k : Fin 10, dig10.extract k.val (k.val + 1) = bs [UInt8.ofNat (48 + k.val)] := by decide +kernel
theorem dec_step (n : Nat) (s : List UInt8) (h : 10 ≤ n) : Lib.decDigits (n / 10) ++ (UInt8.ofNat (48 + n % 10) :: s) = Lib.decDigits n ++ s := by
  rw [show Lib.decDigits n = Lib.decDigits (n / 10) ++ [UInt8.ofNat (48 + n % 10)] by rw [Lib.decDigits, dif_neg (by omega)]]
  simp
theorem dec_last (n : Nat) (s : List UInt8) (h : n < 10) : UInt8.ofNat (48 + n) :: s = Lib.decDigits n ++ s := by
  rw [Lib.decDigits_one h]
  rfl
theorem dec_len (n : Nat) (h : n < 18446744073709551616) : (Lib.decDigits n).length ≤ 20 := by
  rw [Lib.decDigits_length]
  exact Lib.nDigits_le20 n h
/-- How far wide has come: k is left, s is told. -/
def Wd (n k : Nat) (s : List UInt8) : Prop := (s = [] ∧ k = n) ∨ (s ≠ [] ∧ if k = 0 then s = Lib.decDigits n else Lib.decDigits k ++ s = Lib.decDigits n)
theorem Wd.step {n k : Nat} {s : List UInt8} (h : Wd n k s) (hg : 0 < k ∨ s = []) : Wd n (k / 10) (UInt8.ofNat (48 + k % 10) :: s) := by
  right
  refine ⟨by simp, ?_⟩
  have e : Lib.decDigits k ++ s = Lib.decDigits n := by
    rcases h with ⟨h1, h2⟩ | ⟨h1, h2⟩
    · rw [h1, h2, List.append_nil]
    · split at h2
      · rcases hg with hg | hg
        · omega
        · exact absurd hg h1
      · exact h2
  by_cases hk : k < 10
  · rw [if_pos (by omega), show k % 10 = k by omega, dec_last k s hk]
    exact e
  · rw [if_neg (by omega), dec_step k s (by omega)]
    exact e
theorem Wd.len {n k : Nat} {s : List UInt8} (h : Wd n k s) (hn : n < 18446744073709551616) : s.length ≤ 20 := by
  have hl := dec_len n hn
  rcases h with ⟨h1, -⟩ | ⟨-, h2⟩
  · rw [h1]; simp
  · split at h2
    · rw [h2]; exact hl
    · have := congrArg List.length h2
      rw [List.length_append] at this
      omega
def emp (v : Value) : Nat := match v with
  | .string b => if b.size = 0 then 1 else 0
  | _ => 0
theorem emp_nil : emp (S []) = 1 := rfl
theorem emp_cons (c : UInt8) (s : List UInt8) : emp (S (c :: s)) = 0 := by simp [emp, ByteArray.size]
set_option maxRecDepth 100000 in
set_option maxHeartbeats 1000000 in
theorem ewide_any (n : Nat) (hn : n < 18446744073709551616) (w : World) : Calls Tryd.prog 56 #[.int .u64 (n : Nat)] w fun e w' => e = .returned (S (Lib.decDigits n)) ∧ w' = w := by
  have hn2 : (n : Int) < 18446744073709551616 := by omega
  go_enter Tryd.func56, Tryd.ntmps56
  go_wp2_with fail
  go_loopw [0, 3, 4] (fun v0 v3 v4 wr => ∃ (k : Nat) (s : List UInt8), v0 = .int .u64 (k : Nat) ∧ v3 = S s ∧ wr = w ∧ k ≤ n ∧ Hid (Wd n k s)) (fun v0 v3 _ _ => 2 * (intOf v0).toNat + emp v3)
  case atStart => exact ⟨n, [], rfl, rfl, rfl, Nat.le_refl _, hide (.inl ⟨rfl, rfl⟩)⟩
  case round =>
    obtain ⟨k, s, rfl, rfl, rfl, hk, hW⟩ := hrel
    have hs := (unhide hW).len hn
    have k1 : (k : Int) < 18446744073709551616 := by omega
    have k0 : (0 : Int) ≤ (k : Int) := by omega
    obtain ⟨d, hd⟩ : ∃ d, d = k % 10 := ⟨_, rfl⟩
    obtain ⟨q, hq⟩ : ∃ q, q = k / 10 := ⟨_, rfl⟩
    have d1 : (k : Int) % 10 = (d : Int) := by omega
    have d2 : (k : Int).tmod 10 = (d : Int) := by rw [Int.tmod_eq_emod_of_nonneg k0]; omega
    have q1 : (k : Int) / 10 = (q : Int) := by omega
    have q2 : (k : Int).tdiv 10 = (q : Int) := by rw [Int.tdiv_eq_ediv_of_nonneg k0]; omega
    have g1 : (0 : Int) ≤ (d : Int) := by omega
    have g2 : (d : Int) < 10 := by omega
    have g3 : d < 10 := by omega
    have hcut := dig10_cut ⟨d, g3⟩
    simp only at hcut
    obtain ⟨u, hu⟩ : ∃ u, UInt8.ofNat (48 + d) = u := ⟨_, rfl⟩
    rw [hu] at hcut
    have hadd : ∀ w : World, (Op.stringOp .add (bs [u]) (bs s)).run Tryd.prog w = .ok (S (u :: s)) w := fun w => add_run [u] s (by simp; omega) w
    have hqn : q ≤ n := by omega
    by_cases hk0 : 0 < k
    · have j1 : (0 : Int) < (k : Int) := by omega
      have HS := hide (show Wd n q (u :: s) by rw [← hu, hd, hq]; exact (unhide hW).step (.inl hk0))
      have hqk : q < k := by omega
      clear hd hq hs hu
      go_wp2_with fail
      refine ⟨⟨q, _, rfl, rfl, trivial, hqn, HS⟩, ?_⟩
      clear hn hn2 k1 k0 HS hadd
      show 2 * (Int.toNat (q : Int)) + emp _ < 2 * Int.toNat (k : Int) + emp _
      rw [emp_cons, Int.toNat_natCast, Int.toNat_natCast]
      omega
    · have hkz : k = 0 := by omega
      have hqz : q = 0 := by omega
      cases s with
      | nil =>
        have j1 : ¬ (0 : Int) < (k : Int) := by omega
        have HS := hide (show Wd n q [u] by rw [← hu, hd, hq]; exact (unhide hW).step (.inr rfl))
        clear hd hq hs hu
        replace hkz := hide hkz
        replace hqz := hide hqz
        go_wp2_with fail
        refine ⟨⟨q, _, rfl, rfl, trivial, hqn, HS⟩, ?_⟩
        rw [unhide hqz, unhide hkz]
        show 2 * 0 + emp _ < 2 * 0 + emp _
        rw [emp_cons, emp_nil]
        decide
      | cons c s =>
        have j1 : ¬ (0 : Int) < (k : Int) := by omega
        have j2 : ¬ (c :: s) = [] := by simp
        have hfin : (c :: s) = Lib.decDigits n := by
          rcases unhide hW with ⟨h1, -⟩ | ⟨-, h2⟩
          · cases h1
          · rwa [if_pos hkz] at h2
        have HF := hide hfin
        clear hfin hd hq hkz hadd hqz hu
        go_wp2_with fail
        go_ret
        exact ⟨by rw [unhide HF]; rfl, rfl⟩
set_option maxRecDepth 100000 in
set_option maxHeartbeats 1000000 in
theorem edigits_any (n : Int) (h0 : -9223372036854775808 ≤ n) (h1 : n ≤ 9223372036854775807) (w : World) : Calls Tryd.prog 43 #[I n] w fun e w' => e = .returned (S (Lib.itoa n)) ∧ w' = w := by
  by_cases hn : n < 0
  · obtain ⟨u, rfl⟩ : ∃ u : Nat, n = -(u : Int) := ⟨n.natAbs, by omega⟩
    have hi := Lib.itoa_neg u (by omega)
    rw [hi]
    have hl := dec_len u (by omega)
    have HW := hide (ewide_any u (by omega) w)
    have hadd : ∀ w : World, (Op.stringOp .add (bs [45]) (bs (Lib.decDigits u))).run Tryd.prog w = .ok (S (45 :: Lib.decDigits u)) w := fun w => add_run [45] _ (by simp; omega) w
    generalize Lib.decDigits u = l at *
    clear hi
    go_enter Tryd.func43, Tryd.ntmps43
    go_wp2_with fail
    rw [show (-(-(u : Int) + 1) + 1) = (u : Int) by omega]
    refine (unhide HW).mono ?_
    rintro e w' ⟨rfl, rfl⟩
    go_wp2_with fail
    go_ret
    exact ⟨rfl, rfl⟩
  · obtain ⟨u, rfl⟩ : ∃ u : Nat, n = (u : Int) := ⟨n.toNat, by omega⟩
    have hi := Lib.itoa_nonneg u
    rw [hi]
    have HW := hide (ewide_any u (by omega) w)
    generalize Lib.decDigits u = l at *
    clear hi
    go_enter Tryd.func43, Tryd.ntmps43
    go_wp2_with fail
    refine (unhide HW).mono ?_
    rintro e w' ⟨rfl, rfl⟩
    go_wp2_with fail
    go_ret
    exact ⟨rfl, rfl⟩
set_option maxRecDepth 100000 in
set_option maxHeartbeats 1000000 in
/-- A number as it is told; nothing for 0. -/
theorem enumber_any (wd : List UInt8) (hwd : wd.length ≤ 20) (n : Int) (h0 : -9223372036854775808 ≤ n) (h1 : n ≤ 9223372036854775807) (w : World) : Calls Tryd.prog 42 #[S wd, I n] w fun e w' => e = .returned (S (nums (wd ++ [61]) n)) ∧ w' = w := by
  by_cases hn : n = 0
  · have hz : nums (wd ++ [61]) n = [] := by rw [hn]; rfl
    rw [hz]
    have t1 : (n == 0) = true := by simpa using hn
    clear hn hz
    go_enter Tryd.func42, Tryd.ntmps42
    go_wp2_with fail
    go_ret
    exact ⟨rfl, rfl⟩
  · have hz : nums (wd ++ [61]) n = 32 :: (wd ++ [61] ++ Lib.itoa n) := by
      unfold nums seg
      rw [if_pos (by simpa using hn)]
    rw [hz]
    have t1 : (n == 0) = false := by simpa using hn
    have hl := itoa_len n h0 h1
    have HW := hide (edigits_any n h0 h1 w)
    generalize Lib.itoa n = l at *
    have a1 : ∀ w : World, (Op.stringOp .add (bs [32]) (bs wd)).run Tryd.prog w = .ok (S (32 :: wd)) w := fun w => add_run [32] wd (by simp; omega) w
    have a2 : ∀ w : World, (Op.stringOp .add (bs (32 :: wd)) (bs [61])).run Tryd.prog w = .ok (S (32 :: (wd ++ [61]))) w := fun w => add_run (32 :: wd) [61] (by simp; omega) w
    have a3 : ∀ w : World, (Op.stringOp .add (bs (32 :: (wd ++ [61]))) (bs l)).run Tryd.prog w = .ok (S (32 :: (wd ++ [61] ++ l))) w := fun w => add_run (32 :: (wd ++ [61])) l (by simp; omega) w
    clear hn hz
    go_enter Tryd.func42, Tryd.ntmps42
    go_wp2_with fail
    refine (unhide HW).mono ?_
    rintro e w' ⟨rfl, rfl⟩
    go_wp2_with fail
    go_ret
    exact ⟨by simp, rfl⟩
end Go.Proofs.YtnkkfomekdipiaaDoor.Cl
