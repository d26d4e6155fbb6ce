/-
  The document's own Show.
-/
import Derived.Test.YtnkkfomekdipiaaDoorEHex
import Derived.Test.YtnkkfomekdipiaaDoorEDig
import Derived.Test.YtnkkfomekdipiaaDoorCShow
import Derived.Test.YtnkkfomekdipiaaDoorCDec
namespace Go.Proofs.YtnkkfomekdipiaaDoor.Cl
open Go.RowKit
attribute [local go_sem ↓] Go.wp_at_zero Go.wp_at_succ

theorem namA_pre (p : List UInt8) : ∀ (ns : List (List UInt8)) (b : List UInt8) (i : Nat), namA (p ++ b) i ns = p ++ namA b i ns
  | [], b, i => rfl
  | x :: xs, b, i => by
    simp only [namA]
    rw [← namA_pre p xs]
    congr 1
    split <;> simp
abbrev Z7 : Array Value := #[I 0, I 0, I 0, I 0, I 0, I 0, I 0]
theorem store7 {W : World} {b : Nat} {t : TypeId} {a0 a1 a2 a3 a4 a5 a6 : Value} (h : W.heap[b]? = some (.cells #[a0, a1, a2, a3, a4, a5, a6] t)) (v0 v1 v2 v3 v4 v5 v6 : Value) :
    ∃ X1 X2 X3 X4 X5 X6 X7 : World, (W.setCell ⟨b, 0, none⟩ v0 = X1 ∧ X1.setCell ⟨b, 1, none⟩ v1 = X2 ∧ X2.setCell ⟨b, 2, none⟩ v2 = X3 ∧ X3.setCell ⟨b, 3, none⟩ v3 = X4 ∧ X4.setCell ⟨b, 4, none⟩ v4 = X5 ∧ X5.setCell ⟨b, 5, none⟩ v5 = X6 ∧ X6.setCell ⟨b, 6, none⟩ v6 = X7) ∧
      (W.cell? ⟨b, 0, none⟩ = some a0 ∧ X1.cell? ⟨b, 1, none⟩ = some a1 ∧ X2.cell? ⟨b, 2, none⟩ = some a2 ∧ X3.cell? ⟨b, 3, none⟩ = some a3 ∧ X4.cell? ⟨b, 4, none⟩ = some a4 ∧ X5.cell? ⟨b, 5, none⟩ = some a5 ∧ X6.cell? ⟨b, 6, none⟩ = some a6) ∧
      (W.frozen? ⟨b, 0, none⟩ = false ∧ X1.frozen? ⟨b, 1, none⟩ = false ∧ X2.frozen? ⟨b, 2, none⟩ = false ∧ X3.frozen? ⟨b, 3, none⟩ = false ∧ X4.frozen? ⟨b, 4, none⟩ = false ∧ X5.frozen? ⟨b, 5, none⟩ = false ∧ X6.frozen? ⟨b, 6, none⟩ = false) ∧
      X7.heap[b]? = some (.cells #[v0, v1, v2, v3, v4, v5, v6] t) ∧ Gr b W X7 := by
  obtain ⟨X1, e1⟩ : ∃ X, W.setCell ⟨b, 0, none⟩ v0 = X := ⟨_, rfl⟩
  have h1 : X1.heap[b]? = some (.cells #[v0, a1, a2, a3, a4, a5, a6] t) := by rw [← e1, heap_set h]; rfl
  have g1 : Gr b W X1 := e1 ▸ Gr.set b 0 W v0
  obtain ⟨X2, e2⟩ : ∃ X, X1.setCell ⟨b, 1, none⟩ v1 = X := ⟨_, rfl⟩
  have h2 : X2.heap[b]? = some (.cells #[v0, v1, a2, a3, a4, a5, a6] t) := by rw [← e2, heap_set h1]; rfl
  have g2 : Gr b X1 X2 := e2 ▸ Gr.set b 1 X1 v1
  obtain ⟨X3, e3⟩ : ∃ X, X2.setCell ⟨b, 2, none⟩ v2 = X := ⟨_, rfl⟩
  have h3 : X3.heap[b]? = some (.cells #[v0, v1, v2, a3, a4, a5, a6] t) := by rw [← e3, heap_set h2]; rfl
  have g3 : Gr b X2 X3 := e3 ▸ Gr.set b 2 X2 v2
  obtain ⟨X4, e4⟩ : ∃ X, X3.setCell ⟨b, 3, none⟩ v3 = X := ⟨_, rfl⟩
  have h4 : X4.heap[b]? = some (.cells #[v0, v1, v2, v3, a4, a5, a6] t) := by rw [← e4, heap_set h3]; rfl
  have g4 : Gr b X3 X4 := e4 ▸ Gr.set b 3 X3 v3
  obtain ⟨X5, e5⟩ : ∃ X, X4.setCell ⟨b, 4, none⟩ v4 = X := ⟨_, rfl⟩
  have h5 : X5.heap[b]? = some (.cells #[v0, v1, v2, v3, v4, a5, a6] t) := by rw [← e5, heap_set h4]; rfl
  have g5 : Gr b X4 X5 := e5 ▸ Gr.set b 4 X4 v4
  obtain ⟨X6, e6⟩ : ∃ X, X5.setCell ⟨b, 5, none⟩ v5 = X := ⟨_, rfl⟩
  have h6 : X6.heap[b]? = some (.cells #[v0, v1, v2, v3, v4, v5, a6] t) := by rw [← e6, heap_set h5]; rfl
  have g6 : Gr b X5 X6 := e6 ▸ Gr.set b 5 X5 v5
  obtain ⟨X7, e7⟩ : ∃ X, X6.setCell ⟨b, 6, none⟩ v6 = X := ⟨_, rfl⟩
  have h7 : X7.heap[b]? = some (.cells #[v0, v1, v2, v3, v4, v5, v6] t) := by rw [← e7, heap_set h6]; rfl
  have g7 : Gr b X6 X7 := e7 ▸ Gr.set b 6 X6 v6
  refine ⟨X1, X2, X3, X4, X5, X6, X7, ⟨e1, e2, e3, e4, e5, e6, e7⟩, ⟨?_, ?_, ?_, ?_, ?_, ?_, ?_⟩, ⟨frozen_of h _, frozen_of h1 _, frozen_of h2 _, frozen_of h3 _, frozen_of h4 _, frozen_of h5 _, frozen_of h6 _⟩, h7, ?_⟩
  · rw [cell_of h]; rfl
  · rw [cell_of h1]; rfl
  · rw [cell_of h2]; rfl
  · rw [cell_of h3]; rfl
  · rw [cell_of h4]; rfl
  · rw [cell_of h5]; rfl
  · rw [cell_of h6]; rfl
  · exact (((((g1.trans g2).trans g3).trans g4).trans g5).trans g6).trans g7
structure Sh (w W : World) (h : Nat) (r : Rr) (d m : Value) : Prop where
  be : Below h w W
  c : W.heap[h]? = some (.cells (r.cs d m) 37)
theorem Sh.next {w W W' : World} {h : Nat} {r : Rr} {d m : Value} (H : Sh w W h r d m) (g : Below W.heap.size W W') : Sh w W' h r d m := ⟨H.be.trans (g.mono (Nat.le_of_lt (lt_of_heap H.c))), (g.block _ (lt_of_heap H.c)).trans H.c⟩
theorem Sh.drew {w W : World} {h : Nat} {r : Rr} {d m : Value} (H : Sh w W h r d m) : Sh w W.drew h r d m := ⟨below_drew H.be, H.c⟩
set_option maxRecDepth 100000 in
set_option maxHeartbeats 4000000 in
theorem eshow_any (r : Rr) (hr : r.fits) (a : Option Addr) (k cap : Nat) (hk : k = r.data.length) (b : Option Addr) (m mcap : Nat) (hm : m = r.names.length) (w : World) (hdat : By w w.heap.size a r.data) (hns : Ns w w.heap.size b r.names) :
    Calls Tryd.prog 18 #[.agg (r.cs (.slice a k cap) (.slice b m mcap))] w fun e w' => e = .returned (S r.line) ∧ Below w.heap.size w w' := by
  obtain ⟨V, hV, hs, g0, hB⟩ := alloc1 w (.cells (r.cs (.slice a k cap) (.slice b m mcap)) 37)
  have HV : Hid (Sh w V w.heap.size r (.slice a k cap) (.slice b m mcap)) := hide ⟨hB, g0⟩
  have HF := hide hr
  have HD := hide hdat
  have HM := hide hns
  replace hk := hide hk
  replace hm := hide hm
  obtain ⟨b0, b1, b2, b3, b4, b5, b6, b7, b8, b9, b10⟩ := cells11 g0
  clear g0 hB hdat hns hs hr
  go_enter Tryd.func18, Tryd.ntmps18
  generalize hh : w.heap.size = h at *
  go_upto_if 8 with fail
  obtain ⟨kk8, hkk⟩ : ∃ kk, (r.why != 0) = kk := ⟨_, rfl⟩
  rw [hkk]
  replace hkk := hide hkk
  go_cut [3] from 9 to 12 (fun v wd => v = S (oc r.why) ∧ Hid (Sh w wd h r (.slice a k cap) (.slice b m mcap)))
  case first =>
    cases kk8 with
    | true =>
      have hw0 : ¬ r.why = 0 := by simpa using unhide hkk
      have hoc : oc r.why = [101, 114, 114, 111, 114, 32] ++ Lib.itoa r.why := by unfold oc; rw [if_neg hw0]
      have hW := (unhide HF).why
      have hl := itoa_len r.why hW.1 hW.2
      have HW := hide (fun W => edigits_any r.why hW.1 hW.2 W)
      have a1 : ∀ w : World, (Op.stringOp .add (bs [101, 114, 114, 111, 114, 32]) (bs (Lib.itoa r.why))).run Tryd.prog w = .ok (S ([101, 114, 114, 111, 114, 32] ++ Lib.itoa r.why)) w := fun w => add_run _ _ (by simp; omega) w
      have HO := hide hoc
      generalize Lib.itoa r.why = pt at *
      clear hoc hW hw0
      go_wp2_with fail
      refine (unhide HW _).mono ?_
      rintro e w' ⟨rfl, rfl⟩
      go_wp2_with fail
      go_meet
      case rel => exact ⟨by rw [unhide HO]; rfl, HV⟩
    | false =>
      have hw0 : r.why = 0 := by simpa using unhide hkk
      have HO := hide (show oc r.why = [111, 107] by rw [hw0]; rfl)
      clear hw0
      go_wp2_with fail
      go_meet
      case rel => exact ⟨by rw [unhide HO], HV⟩
  case rest =>
  obtain ⟨rfl, HV0⟩ := hcut
  clear hkk HV hV b0 b1 b2 b3 b4 b5 b6 b7 b8 b9 b10
  obtain ⟨b0, b1, b2, b3, b4, b5, b6, b7, b8, b9, b10⟩ := cells11 (unhide HV0).c
  have hl0 : (oc r.why).length ≤ 30 := oc_len r.why (unhide HF).why.1 (unhide HF).why.2
  generalize hL0 : oc r.why = l0 at *
  replace hL0 := hide hL0
  obtain ⟨en, qen⟩ : ∃ e, e = nums wN r.n := ⟨_, rfl⟩
  have En := hide (show ∀ W, Calls Tryd.prog 42 #[S [110], I r.n] W fun e w' => e = .returned (S en) ∧ w' = W from fun W => by
    have h := enumber_any [110] (by decide) r.n (unhide HF).n.1 (unhide HF).n.2 W
    rw [show nums ([110] ++ [61]) r.n = en from qen.symm] at h
    exact h)
  have len' : en.length ≤ 40 := by
    have h1 := itoa_len r.n (unhide HF).n.1 (unhide HF).n.2
    have h2 : (nums wN r.n).length ≤ 1 + wN.length + (Lib.itoa r.n).length := seg_len _ _ _
    rw [qen]
    simp only [List.length_cons, List.length_nil] at h2
    omega
  obtain ⟨l1, q1⟩ : ∃ l, l = l0 ++ en := ⟨_, rfl⟩
  have hl1 : l1.length ≤ 70 := by rw [q1, List.length_append]; omega
  have A1 : ∀ w : World, (Op.stringOp .add (bs l0) (bs en)).run Tryd.prog w = .ok (S l1) w := fun w => by rw [q1]; exact add_run l0 en (by omega) w
  have HQ1 := hide (⟨qen, q1⟩ : _ ∧ _)
  clear qen q1 len'
  go_wp2_with fail
  refine (unhide En _).mono ?_
  rintro e w' ⟨rfl, rfl⟩
  go_upto_if 21 with fail
  obtain ⟨kk21, hkk⟩ : ∃ kk, decide (0 < k) = kk := ⟨_, rfl⟩
  rw [hkk]
  replace hkk := hide hkk
  obtain ⟨l2, q2⟩ : ∃ l, l = l1 ++ txts wData r.data := ⟨_, rfl⟩
  have hfl := (unhide HF).l
  have hl2 : l2.length ≤ 80 + 3 * r.data.length := by
    have h1 := plain_len r.data
    have h2 : (txts wData r.data).length ≤ 1 + wData.length + (plain r.data).length := seg_len _ _ _
    rw [q2, List.length_append]
    simp only [List.length_cons, List.length_nil] at h2
    omega
  replace q2 := hide q2
  go_cut [3] from 22 to 28 (fun v wd => v = S l2 ∧ Hid (Sh w wd h r (.slice a k cap) (.slice b m mcap)))
  case first =>
    cases kk21 with
    | true =>
      have hk0 : 0 < k := by simpa using unhide hkk
      have HE := hide (show l2 = l1 ++ 32 :: (wData ++ plain r.data) by
        rw [unhide q2]
        unfold txts seg
        rw [if_pos (by rw [← unhide hk]; simpa using hk0)])
      have HW := hide (fun W => epath_any r.data (by omega) W)
      have hpl := plain_len r.data
      have hcv := conv_by (W := w') ((unhide HD).below (unhide HV0).be) k cap (unhide hk)
      have a1 : ∀ w : World, (Op.stringOp .add (bs l1) (bs [32, 100, 97, 116, 97, 61])).run Tryd.prog w = .ok (S (l1 ++ [32, 100, 97, 116, 97, 61])) w := fun w => add_run l1 [32, 100, 97, 116, 97, 61] (by simp; omega) w
      have a2 : ∀ w : World, (Op.stringOp .add (bs (l1 ++ [32, 100, 97, 116, 97, 61])) (bs (plain r.data))).run Tryd.prog w = .ok (S (l1 ++ [32, 100, 97, 116, 97, 61] ++ plain r.data)) w := fun w => add_run _ _ (by simp; omega) w
      generalize plain r.data = pt at *
      clear hpl hk0
      go_wp2_with fail
      refine (unhide HW _).mono ?_
      rintro e w2 ⟨rfl, be⟩
      have HV2 := hide ((unhide HV0).next be)
      clear be hcv
      go_wp2_with fail
      go_meet
      case rel => exact ⟨by rw [unhide HE]; simp, HV2⟩
    | false =>
      have hk0 : ¬ 0 < k := by simpa using unhide hkk
      have HE := hide (show l2 = l1 by
        rw [unhide q2]
        unfold txts seg
        rw [if_neg (by rw [← unhide hk]; simpa using hk0), List.append_nil])
      clear hk0
      go_wp2_with fail
      go_meet
      case rel => exact ⟨by rw [unhide HE], HV0⟩
  case rest =>
  obtain ⟨rfl, HV1⟩ := hcut
  clear hkk HV0 b0 b1 b2 b3 b4 b5 b6 b7 b8 b9 b10 A1
  obtain ⟨b0, b1, b2, b3, b4, b5, b6, b7, b8, b9, b10⟩ := cells11 (unhide HV1).c
  go_upto_if 32 with fail
  obtain ⟨kk32, hkk⟩ : ∃ kk, decide (0 < m) = kk := ⟨_, rfl⟩
  rw [hkk]
  replace hkk := hide hkk
  obtain ⟨l3, q3⟩ : ∃ l, l = l2 ++ seg (decide (0 < r.names.length)) wNames (nam r.names) := ⟨_, rfl⟩
  have hl3 : l3.length ≤ 90 + 3 * r.data.length + namL r.names := by
    have h1 := nam_len r.names [] 0
    have h2 := seg_len (decide (0 < r.names.length)) wNames (nam r.names)
    have h3 : nam r.names = namA [] 0 r.names := rfl
    rw [q3, List.length_append]
    rw [← h3] at h1
    simp only [List.length_cons, List.length_nil] at h2 h1
    omega
  replace q3 := hide q3
  go_cut [3, 4] from 33 to 53 (fun v _ wd => v = S l3 ∧ Hid (Sh w wd h r (.slice a k cap) (.slice b m mcap)))
  case first =>
    cases kk32 with
    | true =>
      have hm0 : 0 < m := by simpa using unhide hkk
      obtain ⟨l4, q4⟩ : ∃ l, l = l2 ++ [32, 110, 97, 109, 101, 115, 61] := ⟨_, rfl⟩
      have a1 : ∀ w : World, (Op.stringOp .add (bs l2) (bs [32, 110, 97, 109, 101, 115, 61])).run Tryd.prog w = .ok (S l4) w := fun w => by rw [q4]; exact add_run l2 [32, 110, 97, 109, 101, 115, 61] (by simp; omega) w
      have HE := hide (show l3 = l4 ++ nam r.names by
        rw [unhide q3, q4]
        unfold seg
        rw [if_pos (by rw [← unhide hm]; simpa using hm0)]
        simp)
      have hl4 : l4.length ≤ 90 + 3 * r.data.length := by rw [q4, List.length_append]; simp; omega
      clear q4
      have mm1 : (m : Int) ≤ 130000000000000 := by
        have h1 : r.names.length ≤ namL r.names := by
          generalize r.names = ns
          induction ns with
          | nil => simp [namL]
          | cons x xs ih => simp [namL]; omega
        have := unhide hm
        omega
      go_wp2_with fail
      go_loopw [3, 4] (fun v i wr => ∃ (j : Nat) (l : List UInt8), j ≤ m ∧ i = I (j : Nat) ∧ v = S (l4 ++ l) ∧ l.length + namL (r.names.drop j) ≤ namL r.names ∧ Hid (namA l j (r.names.drop j) = nam r.names) ∧ Hid (Sh w wr h r (.slice a k cap) (.slice b m mcap))) (fun _ i _ => m - (intOf i).toNat)
      case atStart => exact ⟨0, [], Nat.zero_le _, rfl, by rw [List.append_nil], by simp, hide rfl, HV1⟩
      case round =>
        obtain ⟨j, l, hj, rfl, rfl, hll, hnm, HVr⟩ := hrel
        clear b0 b1 b2 b3 b4 b5 b6 b7 b8 b9 b10
        obtain ⟨b0, b1, b2, b3, b4, b5, b6, b7, b8, b9, b10⟩ := cells11 (unhide HVr).c
        by_cases hjm : j < m
        · have hjn : j < r.names.length := by rw [← unhide hm]; exact hjm
          obtain ⟨bb, off, rfl, -, hc⟩ := ((unhide HM).below (unhide HVr).be) j _ (List.getElem?_eq_getElem hjn)
          have hdr : r.names.drop j = r.names[j] :: r.names.drop (j + 1) := List.drop_eq_getElem_cons hjn
          rw [hdr] at hll hnm
          simp only [namL] at hll
          generalize r.names[j] = t at *
          have j1 : (j : Int) < (m : Int) := by omega
          have j0 : (0 : Int) ≤ (j : Int) := by omega
          have hpl := plain_len t
          have HW := hide (fun W => epath_any t (by omega) W)
          by_cases hj0 : j = 0
          · subst hj0
            simp only [Nat.add_zero] at hc
            have HN := hide (show namA (l ++ plain t) (0 + 1) (r.names.drop (0 + 1)) = nam r.names from unhide hnm)
            have a3 : ∀ w : World, (Op.stringOp .add (bs (l4 ++ l)) (bs (plain t))).run Tryd.prog w = .ok (S (l4 ++ l ++ plain t)) w := fun w => add_run _ _ (by simp; omega) w
            have hl5 : (l ++ plain t).length + namL (r.names.drop (0 + 1)) ≤ namL r.names := by rw [List.length_append]; omega
            have HL5 := hide hl5
            generalize plain t = pt at *
            clear hnm hpl hdr hl5
            go_wp2_with fail
            refine (unhide HW _).mono ?_
            rintro e w2 ⟨rfl, be⟩
            have HV2 := hide ((unhide HVr).next be)
            clear be hc
            go_wp2_with fail
            exact ⟨⟨1, l ++ pt, by omega, rfl, rfl, unhide HL5, hide (unhide HN), HV2⟩, by simp [intOf]; omega⟩
          · have hjp : 0 < j := by omega
            have j2 : (0 : Int) < (j : Int) := by omega
            have HN := hide (show namA (l ++ [44] ++ plain t) (j + 1) (r.names.drop (j + 1)) = nam r.names by
              have h1 := unhide hnm
              simp only [namA] at h1
              rw [if_pos hjp] at h1
              exact h1)
            have a3 : ∀ w : World, (Op.stringOp .add (bs (l4 ++ l)) (bs [44])).run Tryd.prog w = .ok (S (l4 ++ (l ++ [44]))) w := fun w => by
              have h := add_run (l4 ++ l) [44] (by simp; omega) w
              rwa [List.append_assoc] at h
            have a4 : ∀ w : World, (Op.stringOp .add (bs (l4 ++ (l ++ [44]))) (bs (plain t))).run Tryd.prog w = .ok (S (l4 ++ (l ++ [44]) ++ plain t)) w := fun w => add_run _ _ (by simp; omega) w
            have HL5 := hide (show (l ++ [44] ++ plain t).length + namL (r.names.drop (j + 1)) ≤ namL r.names by simp; omega)
            generalize plain t = pt at *
            clear hnm hpl hdr
            go_wp2_with fail
            refine (unhide HW _).mono ?_
            rintro e w2 ⟨rfl, be⟩
            have HV2 := hide ((unhide HVr).next be)
            clear be hc
            go_wp2_with fail
            exact ⟨⟨j + 1, l ++ [44] ++ pt, by omega, by go_num, by simp, unhide HL5, hide (unhide HN), HV2⟩, by simp [intOf]; omega⟩
        · obtain rfl : j = m := by omega
          have j1 : ¬ (j : Int) < (j : Int) := by omega
          have HN : Hid (l3 = l4 ++ l) := hide (by
            have h1 := unhide hnm
            rw [List.drop_eq_nil_of_le (by rw [← unhide hm]; exact Nat.le_refl _)] at h1
            rw [unhide HE, ← h1]
            rfl)
          go_wp2_with fail
          go_meet
          case rel => exact ⟨by rw [unhide HN], HVr⟩
    | false =>
      have hm0 : ¬ 0 < m := by simpa using unhide hkk
      have HE := hide (show l3 = l2 by
        rw [unhide q3]
        unfold seg
        rw [if_neg (by rw [← unhide hm]; simpa using hm0), List.append_nil])
      clear hm0
      go_wp2_with fail
      go_meet
      case rel => exact ⟨by rw [unhide HE], HV1⟩
  case rest =>
  obtain ⟨rfl, HV2⟩ := hcut
  clear hkk HV1 b0 b1 b2 b3 b4 b5 b6 b7 b8 b9 b10
  obtain ⟨b0, b1, b2, b3, b4, b5, b6, b7, b8, b9, b10⟩ := cells11 (unhide HV2).c
  obtain ⟨V4, hV4, hs4, g4, hBV⟩ := alloc1 wc (.cells Z7 35)
  obtain ⟨X1, X2, X3, X4, X5, X6, X7, ⟨y1, y2, y3, y4, y5, y6, y7⟩, ⟨s1, s2, s3, s4, s5, s6, s7⟩, ⟨f1, f2, f3, f4, f5, f6, f7⟩, gX, grX⟩ := store7 g4 (I r.node) (I r.kind) (I r.mode) (I r.uid) (I r.gid) (I r.links) (I r.size)
  have hBX : Below wc.heap.size wc X7 := hBV.trans (grX.below (Nat.le_refl _) (by omega))
  have HV3 := hide ((unhide HV2).next hBX)
  generalize hp4 : wc.heap.size = p4 at *
  have c0 : X7.cell? ⟨p4, 0, none⟩ = some (I r.node) := by rw [cell_of gX]; rfl
  have c1 : X7.cell? ⟨p4, 1, none⟩ = some (I r.kind) := by rw [cell_of gX]; rfl
  have c2 : X7.cell? ⟨p4, 2, none⟩ = some (I r.mode) := by rw [cell_of gX]; rfl
  have c3 : X7.cell? ⟨p4, 3, none⟩ = some (I r.uid) := by rw [cell_of gX]; rfl
  have c4 : X7.cell? ⟨p4, 4, none⟩ = some (I r.gid) := by rw [cell_of gX]; rfl
  have c5 : X7.cell? ⟨p4, 5, none⟩ = some (I r.links) := by rw [cell_of gX]; rfl
  have c6 : X7.cell? ⟨p4, 6, none⟩ = some (I r.size) := by rw [cell_of gX]; rfl
  clear hBV g4 hs4 gX grX hBX HV2
  have hN := unhide HF
  obtain ⟨enode, qenode⟩ : ∃ e, e = nums wNodeS r.node := ⟨_, rfl⟩
  have Enode := hide (show ∀ W, Calls Tryd.prog 42 #[S [110, 111, 100, 101], I r.node] W fun e w' => e = .returned (S enode) ∧ w' = W from fun W => by
    have h := enumber_any [110, 111, 100, 101] (by decide) r.node hN.node.1 hN.node.2 W
    rw [show nums ([110, 111, 100, 101] ++ [61]) r.node = enode from qenode.symm] at h
    exact h)
  have lenode : enode.length ≤ 40 := by
    have h1 := itoa_len r.node hN.node.1 hN.node.2
    have h2 : (nums wNodeS r.node).length ≤ 1 + wNodeS.length + (Lib.itoa r.node).length := seg_len _ _ _
    rw [qenode]
    simp only [List.length_cons, List.length_nil] at h2
    omega
  obtain ⟨ekind, qekind⟩ : ∃ e, e = nums wKindS r.kind := ⟨_, rfl⟩
  have Ekind := hide (show ∀ W, Calls Tryd.prog 42 #[S [107, 105, 110, 100], I r.kind] W fun e w' => e = .returned (S ekind) ∧ w' = W from fun W => by
    have h := enumber_any [107, 105, 110, 100] (by decide) r.kind hN.kind.1 hN.kind.2 W
    rw [show nums ([107, 105, 110, 100] ++ [61]) r.kind = ekind from qekind.symm] at h
    exact h)
  have lekind : ekind.length ≤ 40 := by
    have h1 := itoa_len r.kind hN.kind.1 hN.kind.2
    have h2 : (nums wKindS r.kind).length ≤ 1 + wKindS.length + (Lib.itoa r.kind).length := seg_len _ _ _
    rw [qekind]
    simp only [List.length_cons, List.length_nil] at h2
    omega
  obtain ⟨emode, qemode⟩ : ∃ e, e = nums wModeS r.mode := ⟨_, rfl⟩
  have Emode := hide (show ∀ W, Calls Tryd.prog 42 #[S [109, 111, 100, 101], I r.mode] W fun e w' => e = .returned (S emode) ∧ w' = W from fun W => by
    have h := enumber_any [109, 111, 100, 101] (by decide) r.mode hN.mode.1 hN.mode.2 W
    rw [show nums ([109, 111, 100, 101] ++ [61]) r.mode = emode from qemode.symm] at h
    exact h)
  have lemode : emode.length ≤ 40 := by
    have h1 := itoa_len r.mode hN.mode.1 hN.mode.2
    have h2 : (nums wModeS r.mode).length ≤ 1 + wModeS.length + (Lib.itoa r.mode).length := seg_len _ _ _
    rw [qemode]
    simp only [List.length_cons, List.length_nil] at h2
    omega
  obtain ⟨euid, qeuid⟩ : ∃ e, e = nums wUidS r.uid := ⟨_, rfl⟩
  have Euid := hide (show ∀ W, Calls Tryd.prog 42 #[S [117, 105, 100], I r.uid] W fun e w' => e = .returned (S euid) ∧ w' = W from fun W => by
    have h := enumber_any [117, 105, 100] (by decide) r.uid hN.uid.1 hN.uid.2 W
    rw [show nums ([117, 105, 100] ++ [61]) r.uid = euid from qeuid.symm] at h
    exact h)
  have leuid : euid.length ≤ 40 := by
    have h1 := itoa_len r.uid hN.uid.1 hN.uid.2
    have h2 : (nums wUidS r.uid).length ≤ 1 + wUidS.length + (Lib.itoa r.uid).length := seg_len _ _ _
    rw [qeuid]
    simp only [List.length_cons, List.length_nil] at h2
    omega
  obtain ⟨egid, qegid⟩ : ∃ e, e = nums wGidS r.gid := ⟨_, rfl⟩
  have Egid := hide (show ∀ W, Calls Tryd.prog 42 #[S [103, 105, 100], I r.gid] W fun e w' => e = .returned (S egid) ∧ w' = W from fun W => by
    have h := enumber_any [103, 105, 100] (by decide) r.gid hN.gid.1 hN.gid.2 W
    rw [show nums ([103, 105, 100] ++ [61]) r.gid = egid from qegid.symm] at h
    exact h)
  have legid : egid.length ≤ 40 := by
    have h1 := itoa_len r.gid hN.gid.1 hN.gid.2
    have h2 : (nums wGidS r.gid).length ≤ 1 + wGidS.length + (Lib.itoa r.gid).length := seg_len _ _ _
    rw [qegid]
    simp only [List.length_cons, List.length_nil] at h2
    omega
  obtain ⟨elinks, qelinks⟩ : ∃ e, e = nums wLinksS r.links := ⟨_, rfl⟩
  have Elinks := hide (show ∀ W, Calls Tryd.prog 42 #[S [108, 105, 110, 107, 115], I r.links] W fun e w' => e = .returned (S elinks) ∧ w' = W from fun W => by
    have h := enumber_any [108, 105, 110, 107, 115] (by decide) r.links hN.links.1 hN.links.2 W
    rw [show nums ([108, 105, 110, 107, 115] ++ [61]) r.links = elinks from qelinks.symm] at h
    exact h)
  have lelinks : elinks.length ≤ 40 := by
    have h1 := itoa_len r.links hN.links.1 hN.links.2
    have h2 : (nums wLinksS r.links).length ≤ 1 + wLinksS.length + (Lib.itoa r.links).length := seg_len _ _ _
    rw [qelinks]
    simp only [List.length_cons, List.length_nil] at h2
    omega
  obtain ⟨esize, qesize⟩ : ∃ e, e = nums wSizeS r.size := ⟨_, rfl⟩
  have Esize := hide (show ∀ W, Calls Tryd.prog 42 #[S [115, 105, 122, 101], I r.size] W fun e w' => e = .returned (S esize) ∧ w' = W from fun W => by
    have h := enumber_any [115, 105, 122, 101] (by decide) r.size hN.size.1 hN.size.2 W
    rw [show nums ([115, 105, 122, 101] ++ [61]) r.size = esize from qesize.symm] at h
    exact h)
  have lesize : esize.length ≤ 40 := by
    have h1 := itoa_len r.size hN.size.1 hN.size.2
    have h2 : (nums wSizeS r.size).length ≤ 1 + wSizeS.length + (Lib.itoa r.size).length := seg_len _ _ _
    rw [qesize]
    simp only [List.length_cons, List.length_nil] at h2
    omega
  obtain ⟨t0, qt0⟩ : ∃ l, l = l3 ++ enode := ⟨_, rfl⟩
  have A0 : ∀ w : World, (Op.stringOp .add (bs l3) (bs enode)).run Tryd.prog w = .ok (S t0) w := fun w => by rw [qt0]; exact add_run l3 enode (by omega) w
  have lt0 : t0.length ≤ l3.length + 40 := by rw [qt0, List.length_append]; omega
  obtain ⟨t1, qt1⟩ : ∃ l, l = t0 ++ ekind := ⟨_, rfl⟩
  have A1 : ∀ w : World, (Op.stringOp .add (bs t0) (bs ekind)).run Tryd.prog w = .ok (S t1) w := fun w => by rw [qt1]; exact add_run t0 ekind (by omega) w
  have lt1 : t1.length ≤ t0.length + 40 := by rw [qt1, List.length_append]; omega
  obtain ⟨t2, qt2⟩ : ∃ l, l = t1 ++ emode := ⟨_, rfl⟩
  have A2 : ∀ w : World, (Op.stringOp .add (bs t1) (bs emode)).run Tryd.prog w = .ok (S t2) w := fun w => by rw [qt2]; exact add_run t1 emode (by omega) w
  have lt2 : t2.length ≤ t1.length + 40 := by rw [qt2, List.length_append]; omega
  obtain ⟨t3, qt3⟩ : ∃ l, l = t2 ++ euid := ⟨_, rfl⟩
  have A3 : ∀ w : World, (Op.stringOp .add (bs t2) (bs euid)).run Tryd.prog w = .ok (S t3) w := fun w => by rw [qt3]; exact add_run t2 euid (by omega) w
  have lt3 : t3.length ≤ t2.length + 40 := by rw [qt3, List.length_append]; omega
  obtain ⟨t4, qt4⟩ : ∃ l, l = t3 ++ egid := ⟨_, rfl⟩
  have A4 : ∀ w : World, (Op.stringOp .add (bs t3) (bs egid)).run Tryd.prog w = .ok (S t4) w := fun w => by rw [qt4]; exact add_run t3 egid (by omega) w
  have lt4 : t4.length ≤ t3.length + 40 := by rw [qt4, List.length_append]; omega
  obtain ⟨t5, qt5⟩ : ∃ l, l = t4 ++ elinks := ⟨_, rfl⟩
  have A5 : ∀ w : World, (Op.stringOp .add (bs t4) (bs elinks)).run Tryd.prog w = .ok (S t5) w := fun w => by rw [qt5]; exact add_run t4 elinks (by omega) w
  have lt5 : t5.length ≤ t4.length + 40 := by rw [qt5, List.length_append]; omega
  obtain ⟨t6, qt6⟩ : ∃ l, l = t5 ++ esize := ⟨_, rfl⟩
  have A6 : ∀ w : World, (Op.stringOp .add (bs t5) (bs esize)).run Tryd.prog w = .ok (S t6) w := fun w => by rw [qt6]; exact add_run t5 esize (by omega) w
  have lt6 : t6.length ≤ t5.length + 40 := by rw [qt6, List.length_append]; omega
  have hline : r.line = t6 := by
    unfold Rr.line
    rw [unhide hL0, qt6, qt5, qt4, qt3, qt2, qt1, qt0, unhide q3, unhide q2, (unhide HQ1).2, (unhide HQ1).1, qenode, qekind, qemode, qeuid, qegid, qelinks, qesize]
    simp only [List.append_assoc]
  have HLN := hide hline
  clear hline hN qenode lenode qekind lekind qemode lemode qeuid leuid qegid legid qelinks lelinks qesize lesize qt0 qt1 qt2 qt3 qt4 qt5 qt6 HF
  go_wp2_with fail
  go_region_held3 (fun W' => W'.cell? ⟨p4, 0, none⟩ = some (I r.node) ∧ W'.cell? ⟨p4, 1, none⟩ = some (I r.kind) ∧ W'.cell? ⟨p4, 2, none⟩ = some (I r.mode) ∧ W'.cell? ⟨p4, 3, none⟩ = some (I r.uid) ∧ W'.cell? ⟨p4, 4, none⟩ = some (I r.gid) ∧ W'.cell? ⟨p4, 5, none⟩ = some (I r.links) ∧ W'.cell? ⟨p4, 6, none⟩ = some (I r.size)) (first | exact ⟨by assumption, by assumption, by assumption, by assumption, by assumption, by assumption, by assumption⟩ | go_keep)
    (first
      | (go_at_call_has 42 (I r.node); refine (unhide Enode _).mono ?_; rintro e W' ⟨rfl, rfl⟩)
      | (go_at_call_has 42 (I r.kind); refine (unhide Ekind _).mono ?_; rintro e W' ⟨rfl, rfl⟩)
      | (go_at_call_has 42 (I r.mode); refine (unhide Emode _).mono ?_; rintro e W' ⟨rfl, rfl⟩)
      | (go_at_call_has 42 (I r.uid); refine (unhide Euid _).mono ?_; rintro e W' ⟨rfl, rfl⟩)
      | (go_at_call_has 42 (I r.gid); refine (unhide Egid _).mono ?_; rintro e W' ⟨rfl, rfl⟩)
      | (go_at_call_has 42 (I r.links); refine (unhide Elinks _).mono ?_; rintro e W' ⟨rfl, rfl⟩)
      | (go_at_call_has 42 (I r.size); refine (unhide Esize _).mono ?_; rintro e W' ⟨rfl, rfl⟩))
  go_wp2_with fail
  go_ret
  exact ⟨by rw [unhide HLN]; rfl, (unhide HV3).drew.be⟩
end Go.Proofs.YtnkkfomekdipiaaDoor.Cl
