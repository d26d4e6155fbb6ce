/-
  BlockRefused: a write that is refused turned nothing.
-/
import Derived.Test.YtaogokgklkdmpabWithin
import Derived.Deep.Cut
namespace Go.Proofs.Ytaogokgklkdmpab
open Go.RowKit Go.Maps

theorem refused_same {s : S} {f a : Int} {n : Nat} {g : Nat → Int} (h : writeE s f a n ≠ 0) : writeS s f a n g = s := by
  unfold writeE at h
  unfold writeS
  cases e : s.get f with
  | none => rfl
  | some x =>
    rw [e] at h
    simp only [] at h ⊢
    split
    · rfl
    · rename_i h1
      rw [if_neg h1] at h
      split
      · rfl
      · rename_i h2
        rw [if_neg h2] at h
        split
        · rfl
        · rename_i h3
          rw [if_neg h3] at h
          split
          · rfl
          · rename_i h4
            rw [if_neg h4] at h
            exact absurd rfl h
theorem Sl.nx {lo base : Nat} {W W' : World} {v : Value} {f : Nat → Int} {a m : Nat} (h : Sl lo W v f a m) (hN : Nx base W W') : Sl lo W' v f a m := by
  rcases h with h | ⟨g, h1, h2, h3⟩
  · exact .inl h
  · exact .inr ⟨g, h1, h2, hN.oth _ _ _ _ h3 (by decide) (by decide)⟩
theorem Sl.below {lo : Nat} {W W' : World} {v : Value} {f : Nat → Int} {a m : Nat} (h : Sl lo W v f a m) (hN : Below W.heap.size W W') : Sl lo W' v f a m := by
  rcases h with h | ⟨g, h1, h2, h3⟩
  · exact .inl h
  · exact .inr ⟨g, h1, h2, (hN.block g (lt_of_heap h3)).trans h3⟩
set_option maxRecDepth 100000 in
set_option maxHeartbeats 2000000 in
theorem refused_walk (a0 : Int) (a1 : Option Addr) (len1 cap1 : Nat) (a2 : Int) (w2 : (kl a2).wf = true) (a3 : Option Addr) (len3 cap3 : Nat) (w : World) (h1 : BytesAt w a1 len1 cap1) (h3 : BytesAt w a3 len3 cap3) :
    Calls Try.prog 3 #[I a0, .slice a1 len1 cap1, I a2, .slice a3 len3 cap3] w fun e w' => e = .returned (.bool true) ∧ Below w.heap.size w w' := by
  obtain ⟨l1, lc1, lm1, g1, H1⟩ := h1
  obtain ⟨l3, lc3, lm3, g3, H3⟩ := h3
  replace H1 := hide H1
  replace H3 := hide H3
  replace w2 := hide w2
  go_enter Try.func3, Try.ntmps3
  go_wp2_with fail
  refine (within_any _ _ _ (by omega) (by omega)).mono ?_
  rintro e w0 ⟨⟨n, hn, rfl⟩, rfl⟩
  go_wp2_with fail
  refine (new_Z _ n rfl (by omega) _).mono ?_
  rintro e w1 ⟨p, rfl, P, B⟩
  go_upto_if 34 with fail
  go_cut [1] from 19 (fun v wc => ∃ (n : Nat), n ≤ 200 ∧ n ≤ len1 ∧ v = .slice a1 n cap1 ∧ wc = w1)
  case first =>
    by_cases hl : 200 < len1
    · have q1 : (200 : Int) < (len1 : Int) := by omega
      have q2 : (200 : Int) ≤ (cap1 : Int) := by omega
      go_wp2_with fail
      go_meet
      case rel => exact ⟨200, by omega, by omega, rfl, rfl⟩
    · have q1 : ¬ (200 : Int) < (len1 : Int) := by omega
      go_wp2_with fail
      go_meet
      case rel => exact ⟨len1, by omega, by omega, rfl, rfl⟩
  case rest =>
  obtain ⟨n1, hn1, hm1, rfl, rfl⟩ := hcut
  obtain ⟨w1, hw1⟩ : ∃ x, x = wc := ⟨_, rfl⟩
  subst hw1
  go_upto_if 39 with fail
  go_cut [3] from 19 (fun v wd => ∃ (n : Nat), n ≤ 1200 ∧ n ≤ len3 ∧ v = .slice a3 n cap3 ∧ wd = w1)
  case first =>
    by_cases hl : 1200 < len3
    · have q1 : (1200 : Int) < (len3 : Int) := by omega
      have q2 : (1200 : Int) ≤ (cap3 : Int) := by omega
      go_wp2_with fail
      go_meet
      case rel => exact ⟨1200, by omega, by omega, rfl, rfl⟩
    · have q1 : ¬ (1200 : Int) < (len3 : Int) := by omega
      go_wp2_with fail
      go_meet
      case rel => exact ⟨len3, by omega, by omega, rfl, rfl⟩
  case rest =>
  obtain ⟨n3, hn3, hm3, rfl, rfl⟩ := hcut
  obtain ⟨w1, hw1⟩ : ∃ x, x = wc := ⟨_, rfl⟩
  subst hw1
  have I1 := hide ((unhide H1).take hm1)
  have I3 := hide ((unhide H3).take hm3)
  clear H1 H3
  go_wp2_with fail
  refine (file_Z (s := ⟨n, []⟩) P 1 rfl (by simp) B).mono ?_
  clear P B
  rintro e w4 ⟨rfl, P, _, B⟩
  go_wp2_with fail
  refine (write_Z P 1 (by decide) 3 (by decide) a1 n1 cap1 g1 ((unhide I1).base rfl (unhide B)) _ rfl B).mono ?_
  clear P B
  rintro e w5 ⟨rfl, P, _, B⟩
  obtain ⟨s5, hs5⟩ : ∃ s5, s5 = writeS (⟨n, []⟩ : S).add 1 3 n1 g1 := ⟨_, rfl⟩
  rw [← hs5] at P
  clear hs5
  obtain ⟨x6, hx6⟩ : ∃ x, x = readE (s5.get 1) 0 3000 := ⟨_, rfl⟩
  obtain ⟨m6, hm6⟩ : ∃ x, x = readM (s5.get 1) 0 3000 := ⟨_, rfl⟩
  replace hx6 := hide hx6
  replace hm6 := hide hm6
  go_wp2_with fail
  refine (read_Z P 1 (by decide) 0 3000 (by decide) x6 (unhide hx6).symm m6 (unhide hm6).symm B).mono ?_
  clear P B
  rintro e w6 ⟨v, rfl, S6, _, P, B⟩
  obtain ⟨z, hz⟩ : ∃ z : Int, z = ((sizeO (s5.get 1) : Nat) : Int) := ⟨_, rfl⟩
  obtain ⟨u, hu⟩ : ∃ z : Int, z = ((usedO (s5.get 1) : Nat) : Int) := ⟨_, rfl⟩
  obtain ⟨l, hl⟩ : ∃ z : Int, z = ((s5.left : Nat) : Int) := ⟨_, rfl⟩
  replace hz := hide hz
  replace hu := hide hu
  replace hl := hide hl
  go_wp2_with fail
  refine (size_Z P 1 (by decide) z (unhide hz).symm).mono ?_
  rintro e w7 ⟨rfl, rfl⟩
  go_wp2_with fail
  refine (used_Z P 1 (by decide) u (unhide hu).symm).mono ?_
  rintro e w8 ⟨rfl, rfl⟩
  go_wp2_with fail
  refine (left_Z P l (unhide hl).symm).mono ?_
  rintro e w9 ⟨rfl, rfl⟩
  obtain ⟨x9, hx9⟩ : ∃ x, x = writeE s5 1 a2 n3 := ⟨_, rfl⟩
  replace hx9 := hide hx9
  go_wp2_with fail
  refine (write_Z P 1 (by decide) a2 (unhide w2) a3 n3 cap3 g3 ((unhide I3).base rfl (unhide B)) x9 (unhide hx9).symm B).mono ?_
  clear P B
  rintro e w10 ⟨rfl, P, N, B⟩
  by_cases h0 : x9 = 0
  · have q : (x9 == 0) = true := by simp [h0]
    replace h0 := hide h0
    go_wp2_with fail
    refine (known_any _).mono ?_
    rintro e w11 ⟨rfl, K⟩
    go_wp2_with fail
    go_ret
    exact ⟨rfl, (unhide B).trans (K.mono (unhide P).bs)⟩
  · have q : (x9 == 0) = false := by simp [h0]
    have hs : writeS s5 1 a2 n3 g3 = s5 := refused_same (by rw [← unhide hx9]; exact h0)
    rw [hs] at P
    replace h0 := hide h0
    replace hs := hide hs
    go_wp2_with fail
    refine (read_Z P 1 (by decide) 0 3000 (by decide) x6 (unhide hx6).symm m6 (unhide hm6).symm B).mono ?_
    clear B
    rintro e w11 ⟨v2, rfl, S11, K11, P11, B11⟩
    have hc1 := conv_sl (((unhide S6).nx (unhide N)).below (unhide K11))
    have hc2 := conv_sl (unhide S11)
    obtain ⟨T, hT⟩ : ∃ T, T = str (byteO (s5.get 1)) (0 : Int).toNat m6 := ⟨_, rfl⟩
    rw [← hT] at hc1 hc2
    clear hT S6 S11 K11 N
    go_wp2_with fail
    refine (size_Z P11 1 (by decide) z (unhide hz).symm).mono ?_
    rintro e w12 ⟨rfl, rfl⟩
    go_wp2_with fail
    refine (used_Z P11 1 (by decide) u (unhide hu).symm).mono ?_
    rintro e w13 ⟨rfl, rfl⟩
    go_wp2_with fail
    refine (left_Z P11 l (unhide hl).symm).mono ?_
    rintro e w14 ⟨rfl, rfl⟩
    go_wp2_with fail
    refine (known_any _).mono ?_
    rintro e w15 ⟨rfl, K⟩
    go_wp2_with fail
    go_ret
    exact ⟨rfl, (unhide B11).trans (K.mono (unhide P11).bs)⟩
end Go.Proofs.Ytaogokgklkdmpab
