/-
  CallSizes' walk.
-/
import Derived.Test.YtnkkfomekdipiaaDoorCIn
namespace Go.Proofs.YtnkkfomekdipiaaDoor.Cl
open Go.RowKit
attribute [local go_sem ↓] Go.wp_at_zero Go.wp_at_succ

set_option maxHeartbeats 400000 in
theorem within_any (v hi : Int) (w : World) (h0 : 0 ≤ hi) (h1 : hi ≤ 4611686018427387904) :
    Calls Tryd.prog 19 #[.int .i64 v, .int .i64 0, .int .i64 hi] w fun e w' => (∃ r : Nat, (r : Int) ≤ hi ∧ e = .returned (I (r : Int))) ∧ w' = w := by
  have t1 : v.tmod (hi + 1) < hi + 1 := Int.tmod_lt_of_pos v (by omega)
  have t2 : -(hi + 1) < v.tmod (hi + 1) := by
    have h := Int.tmod_lt_of_pos (-v) (show 0 < hi + 1 by omega)
    rw [Int.neg_tmod] at h
    omega
  have t3 : ¬ hi + 1 = 0 := by omega
  by_cases hn : v.tmod (hi + 1) < 0
  · go_enter Tryd.func19, Tryd.ntmps19
    go_wp2
    go_ret
    refine ⟨⟨(v.tmod (hi + 1) + hi + 1).toNat, by omega, ?_⟩, rfl⟩
    rw [Int.toNat_of_nonneg (by omega)]
    rfl
  · go_enter Tryd.func19, Tryd.ntmps19
    go_wp2
    go_ret
    refine ⟨⟨(v.tmod (hi + 1)).toNat, by omega, ?_⟩, rfl⟩
    rw [Int.toNat_of_nonneg (by omega)]
    rfl
theorem Bw.some {W : World} {B : Nat} {v : Value} {l : List UInt8} (h : Bw W B v l) (hl : l ≠ []) : ∃ g cap, v = .slice (some ⟨g, 0, none⟩) l.length cap ∧ By W W.heap.size (some ⟨g, 0, none⟩) l ∧ l.length ≤ cap ∧ cap ≤ maxLen ∧ B ≤ g := by
  have hf := h.form
  obtain ⟨-, h2⟩ | ⟨g, cap, cur, fz, rfl, h2, -, -, h5, h6, -⟩ := h
  · exact absurd h2 hl
  · obtain ⟨a, c, e, h7, -⟩ := hf
    simp at e
    exact ⟨g, cap, rfl, by rw [e.1]; exact h7, h5, h6, h2⟩
theorem By.take {W : World} {B : Nat} {a : Option Addr} {l : List UInt8} (h : By W B a l) (k : Nat) : By W B a (l.take k) := fun j c hj => h j c (by
  rw [List.getElem?_take] at hj
  split at hj
  · exact hj
  · cases hj)
/-- Decode of a call's bytes, cut off. -/
theorem dec_no (x : Cc) (hr : x.right = 0) (g c r : Nat) (h : r < x.enc.length) (w : World) (hb : By w w.heap.size (some ⟨g, 0, none⟩) x.enc) (hc : x.enc.length ≤ c) (hm : c ≤ maxLen) :
    Calls Tryd.prog 11 #[.slice (some ⟨g, 0, none⟩) r c] w fun e w' => e = .returned (.tuple #[.agg Z0, I 0, I 10]) ∧ Below w.heap.size w w' := by
  have hd : dwhy (x.enc.take r) = 10 := dec_cut x hr _ (x.enc.drop r) (List.take_append_drop ..) (by
    intro e
    have := congrArg List.length e
    rw [List.length_drop, List.length_nil] at this
    omega)
  refine (decode_any (x.enc.take r) (some ⟨g, 0, none⟩) r c (by rw [List.length_take]; omega) (by rw [List.length_take]; omega) hm (fun e => by cases e) w (hb.take r)).mono ?_
  rintro e w' ⟨⟨-, rfl⟩ | ⟨h, -⟩, hB⟩
  · rw [hd]
    exact ⟨rfl, hB⟩
  · rw [hd] at h
    cases h
set_option maxRecDepth 100000 in
set_option maxHeartbeats 2000000 in
theorem sizes_walk (x : Cc) (a : Option Addr) (cap : Nat) (cut : Int) (w : World) (hx : CallAt w x a cap) (hL : Lai w) :
    Calls Tryd.prog 8 #[.agg (x.cs (.slice a x.data.length cap)), I cut] w fun e w' => e = .returned (.bool true) ∧ Below w.heap.size w w' := by
  obtain ⟨V, hV, hs, g0, hB⟩ := alloc1 w (.cells (x.cs (.slice a x.data.length cap)) 27)
  have HL := hide (show ∀ W, Below w.heap.size w W → Lai W from fun W g => hL.below g)
  obtain ⟨b0, b1, b2, b3, b4, b5, b6, b7, b8⟩ := cells9 g0
  by_cases hr : x.right = 0
  · obtain ⟨-, -, l1, l2, l3⟩ := Cc.right_ok hr
    have HE := hide (encode_y x a _ cap rfl hr V (by
      have h1 := hx.by'.below hB
      exact h1.mono (by omega)))
    have Hr := hide hr
    have HB := hide hB
    have HG := hide g0
    clear hx hL hB g0 hs
    go_enter Tryd.func8, Tryd.ntmps8
    go_wp2_with fail
    refine (unhide HE).mono ?_
    rintro e W1 ⟨v1, rfl, r1, be1⟩
    have hne : x.enc ≠ [] := by
      intro h
      have := x.enc_len
      rw [h] at this
      simp at this
      omega
    obtain ⟨g, c1, rfl, by1, lc1, cm1, -⟩ := r1.some hne
    have hlen := x.enc_len
    have HB1 := hide ((unhide HB).trans (be1.mono (unhide HB).size))
    obtain ⟨b0, b1, b2, b3, b4, b5, b6, b7, b8⟩ := cells9 ((be1.block _ (lt_of_heap (unhide HG))).trans (unhide HG))
    have HY := hide (⟨by1, lc1, cm1⟩ : _ ∧ _ ∧ _)
    clear r1 be1 HE HB by1 HG
    have lc2 : 27 + x.path.length + x.dst.length + x.data.length ≤ c1 := by omega
    have cm2 : c1 ≤ 9223372036854775807 := Nat.le_trans cm1 (by decide)
    rw [hlen]
    replace hlen := hide hlen
    have j1 : (x.path.length : Int) ≤ 5000 := by omega
    have j2 : (x.dst.length : Int) ≤ 5000 := by omega
    have j3 : (x.data.length : Int) ≤ 2000 := by omega
    clear l1 l2 l3 lc1 cm1 hne
    go_wp2_with fail
    refine (within_any _ _ _ (by omega) (by omega)).mono ?_
    rintro e W' ⟨⟨r, hrr, rfl⟩, hW'⟩
    rw [hW']
    clear hW' W'
    have hrn : r < x.enc.length := by rw [unhide hlen]; omega
    have HD := hide (dec_no x (unhide Hr) g c1 r hrn W1 (unhide HY).1 (unhide HY).2.1 (unhide HY).2.2)
    have q0 : (0 : Int) ≤ (r : Int) := by omega
    have q1 : (r : Int) ≤ (c1 : Int) := by omega
    have q2 : r ≤ c1 := by omega
    clear hrn hrr b0 b1 b2 b3 b4 b5 b6 b7 b8 lc2 HY
    go_wp2_with fail
    refine (unhide HD).mono ?_
    rintro e W2 ⟨rfl, be2⟩
    obtain ⟨V2, hV2, hs2, g2, hBV⟩ := alloc1 W2 (.cells Z0 27)
    obtain ⟨X1, X2, X3, X4, X5, X6, X7, X8, X9, ⟨y1, y2, y3, y4, y5, y6, y7, y8, y9⟩, ⟨s1, s2, s3, s4, s5, s6, s7, s8, s9⟩, ⟨f1, f2, f3, f4, f5, f6, f7, f8, f9⟩, gX, grX⟩ := store9 g2 (I 0) (.string ⟨#[]⟩) (.string ⟨#[]⟩) (I 0) (I 0) (I 0) (I 0) (I 0) (.slice none 0 0)
    have HB2 := hide ((unhide HB1).trans (be2.mono (unhide HB1).size))
    have hw2 := (unhide HB2).size
    have HB3 := hide (((unhide HB2).trans (hBV.mono hw2)).trans (grX.below hw2 (by omega)))
    clear HB1 be2 hBV g2 hs2 HD gX grX HB2 hw2
    go_wp2_with fail
    have L1 := unhide HL _ (unhide HB3)
    refine (known_any _ L1.on L1.pos L1.tab).mono ?_
    rintro e W4 ⟨rfl, be4⟩
    have HB4 := hide ((unhide HB3).trans (be4.mono (unhide HB3).size))
    clear be4 HB3
    go_wp2_with fail
    go_ret
    exact ⟨rfl, unhide HB4⟩
  · have HE := hide (encode_n x a _ cap rfl hr V)
    have hr2 : (x.right == 0) = false := by simpa using hr
    have hr3 : (x.right != 0) = true := by simpa using hr
    have HB := hide hB
    clear hx hL hB g0 hs
    go_enter Tryd.func8, Tryd.ntmps8
    go_wp2_with fail
    refine (unhide HE).mono ?_
    rintro e W1 ⟨rfl, be1⟩
    have HB1 := hide ((unhide HB).trans (be1.mono (unhide HB).size))
    clear be1 HE HB b0 b1 b2 b3 b4 b5 b6 b7 b8
    go_wp2_with fail
    have L1 := unhide HL _ (unhide HB1)
    refine (known_any _ L1.on L1.pos L1.tab).mono ?_
    rintro e W2 ⟨rfl, be2⟩
    have HB2 := hide ((unhide HB1).trans (be2.mono (unhide HB1).size))
    clear be2 HB1
    go_wp2_with fail
    go_ret
    exact ⟨rfl, unhide HB2⟩
end Go.Proofs.YtnkkfomekdipiaaDoor.Cl
