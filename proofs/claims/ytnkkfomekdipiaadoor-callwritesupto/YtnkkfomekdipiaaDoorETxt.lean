/-
  The document's own Text.
-/
import Derived.Test.YtnkkfomekdipiaaDoorEHex
import Derived.Test.YtnkkfomekdipiaaDoorEDig
import Derived.Test.YtnkkfomekdipiaaDoorERight
import Derived.Test.YtnkkfomekdipiaaDoorCDec
namespace Go.Proofs.YtnkkfomekdipiaaDoor.Cl
open Go.RowKit
attribute [local go_sem ↓] Go.wp_at_zero Go.wp_at_succ

abbrev nameCells : Array Value := #[S [110, 111, 110, 101], S [109, 107, 100, 105, 114], S [114, 109, 100, 105, 114], S [111, 112, 101, 110], S [99, 108, 111, 115, 101], S [114, 101, 97, 100], S [119, 114, 105, 116, 101], S [115, 101, 101, 107], S [116, 114, 117, 110, 99, 97, 116, 101], S [108, 105, 110, 107], S [117, 110, 108, 105, 110, 107], S [115, 121, 109, 108, 105, 110, 107], S [114, 101, 97, 100, 108, 105, 110, 107], S [114, 101, 110, 97, 109, 101], S [105, 110, 102, 111], S [99, 104, 109, 111, 100], S [99, 104, 111, 119, 110], S [99, 104, 100, 105, 114], S [108, 105, 115, 116], S [98, 105, 110, 100], S [117, 110, 98, 105, 110, 100]]
theorem name_get (k : Nat) (h1 : 1 ≤ k) (h2 : k ≤ 20) : nameCells[k]? = some (S (opn (k : Nat))) := by
  have h : k = 1 ∨ k = 2 ∨ k = 3 ∨ k = 4 ∨ k = 5 ∨ k = 6 ∨ k = 7 ∨ k = 8 ∨ k = 9 ∨ k = 10 ∨ k = 11 ∨ k = 12 ∨ k = 13 ∨ k = 14 ∨ k = 15 ∨ k = 16 ∨ k = 17 ∨ k = 18 ∨ k = 19 ∨ k = 20 := by omega
  rcases h with rfl | rfl | rfl | rfl | rfl | rfl | rfl | rfl | rfl | rfl | rfl | rfl | rfl | rfl | rfl | rfl | rfl | rfl | rfl | rfl <;> rfl
set_option maxRecDepth 100000 in
set_option maxHeartbeats 4000000 in
theorem etextAll_any (x : Cc) (hN : ∀ k, -9223372036854775808 ≤ x.num k ∧ x.num k ≤ 9223372036854775807) (hx : x.path.length + x.dst.length + x.data.length ≤ 40000000000000) (a : Option Addr) (k cap : Nat) (hk : k = x.data.length) (w : World) (hdat : By w w.heap.size a x.data) :
    Calls Tryd.prog 17 #[.agg (x.cs (.slice a k cap))] w fun e w' => e = .returned (S x.line) ∧ Below w.heap.size w w' := by
  obtain ⟨V, hV, hs, g0, g1, hB⟩ := alloc2 w (.cells (x.cs (.slice a k cap)) 27) (.cells nameCells 9)
  have HV := hide (⟨hB, g0⟩ : _ ∧ _)
  have HD := hide hdat
  have HX := hide hx
  have HN := hide hN
  have hnm : ∀ j : Nat, 1 ≤ j → j ≤ 20 → V.cell? ⟨w.heap.size + 1, j, none⟩ = some (S (opn (j : Nat))) := fun j h1 h2 => by rw [cell_of g1]; exact name_get j h1 h2
  replace hk := hide hk
  obtain ⟨b0, b1, b2, b3, b4, b5, b6, b7, b8⟩ := cs9 g0
  clear g0 g1 hB hdat hx hN hs
  go_enter Tryd.func17, Tryd.ntmps17
  generalize hh : w.heap.size = h at *
  go_upto_region 3 with fail
  obtain ⟨bb, hbb⟩ : ∃ bb : Bool, bb = decide (1 ≤ x.op ∧ x.op ≤ 20) := ⟨_, rfl⟩
  go_cut [15] from 6 to 14 (fun v wc => wc = V ∧ v = .bool bb)
  case first =>
    by_cases o1 : 1 ≤ x.op
    · by_cases o2 : x.op ≤ 20
      · have t1 : x.op < 21 := by omega
        have HBB := hide (show bb = true by rw [hbb]; simp [o1, o2])
        go_wp2_with fail
        go_meet
        case rel => exact ⟨rfl, by rw [unhide HBB]⟩
      · have t1 : ¬ x.op < 21 := by omega
        have HBB := hide (show bb = false by rw [hbb]; simp [o2])
        clear o2
        go_wp2_with fail
        go_meet
        case rel => exact ⟨rfl, by rw [unhide HBB]⟩
    · have HBB := hide (show bb = false by rw [hbb]; simp [o1])
      go_wp2_with fail
      go_meet
      case rel => exact ⟨rfl, by rw [unhide HBB]⟩
  case rest =>
  obtain ⟨rfl, rfl⟩ := hcut
  replace hbb := hide hbb
  go_upto_if 15 with fail
  go_cut [4] from 16 to 20 (fun v wd => wd = wc ∧ v = S (opn x.op))
  case first =>
    cases bb with
    | true =>
      have hb : (1 ≤ x.op ∧ x.op ≤ 20) := by simpa using (unhide hbb).symm
      obtain ⟨j, hj⟩ : ∃ j : Nat, x.op = (j : Int) := ⟨x.op.toNat, by omega⟩
      have hc := hnm j (by omega) (by omega)
      rw [hj] at b0
      have HJ := hide hj
      have t0 : (0 : Int) ≤ (j : Int) := by omega
      have t1 : (j : Int) < 21 := by omega
      have t2 : j < 21 := by omega
      clear hj hb hbb
      go_wp2_with fail
      go_meet
      case rel => exact ⟨rfl, by rw [unhide HJ]⟩
    | false =>
      have hb : opn x.op = [110, 111, 110, 101] := by
        unfold opn
        rw [if_pos]
        have := (unhide hbb).symm
        simp at this
        omega
      have HO := hide hb
      clear hb
      go_wp2_with fail
      go_meet
      case rel => exact ⟨rfl, by rw [unhide HO]⟩
  case rest =>
  obtain ⟨rfl, rfl⟩ := hcut
  have hl0 := opn_len x.op
  generalize hL0 : opn x.op = l0 at *
  replace hL0 := hide hL0
  clear hbb hnm hV b0
  go_upto_if 23 with fail
  obtain ⟨l1, ql1⟩ : ∃ l, l = l0 ++ txts [] x.path := ⟨_, rfl⟩
  have hl1 : l1.length ≤ 200000000000000 := by
    have h1 := plain_len x.path
    have h2 : (txts [] x.path).length ≤ 1 + ([] : List UInt8).length + (plain x.path).length := seg_len _ _ _
    have h3 := unhide HX
    rw [ql1, List.length_append]
    simp only [List.length_nil] at h2
    omega
  have hl1x : l1.length ≤ l0.length + 1 + 3 * x.path.length := by
    have h1 := plain_len x.path
    have h2 : (txts [] x.path).length ≤ 1 + ([] : List UInt8).length + (plain x.path).length := seg_len _ _ _
    rw [ql1, List.length_append]
    simp only [List.length_nil] at h2
    omega
  obtain ⟨kk23, hkk⟩ : ∃ kk, (!x.path.isEmpty) = kk := ⟨_, rfl⟩
  rw [hkk]
  replace hkk := hide hkk
  replace ql1 := hide ql1
  go_cut [4] from 24 to 29 (fun v wd => v = S l1 ∧ Hid (Below h w wd ∧ wd.heap[h]? = some (.cells (x.cs (.slice a k cap)) 27)))
  case first =>
    cases kk23 with
    | true =>
      have hp : 0 < x.path.length := by
        have := unhide hkk
        cases hc : x.path with
        | nil => rw [hc] at this; simp at this
        | cons c l => simp
      have HE := hide (show l1 = l0 ++ 32 :: plain x.path by
        rw [unhide ql1]
        unfold txts seg
        rw [if_pos (by simpa using hp)]
        rfl)
      have HW := hide (fun W => epath_any x.path (by have := unhide HX; omega) W)
      have hpl := plain_len x.path
      have hfl : x.path.length ≤ 40000000000000 := by have := unhide HX; omega
      have a1 : ∀ w : World, (Op.stringOp .add (bs l0) (bs [32])).run Tryd.prog w = .ok (S (l0 ++ [32])) w := fun w => add_run l0 [32] (by simp; omega) w
      have a2 : ∀ w : World, (Op.stringOp .add (bs (l0 ++ [32])) (bs (plain x.path))).run Tryd.prog w = .ok (S (l0 ++ 32 :: plain x.path)) w := fun w => by
        have h := add_run (l0 ++ [32]) (plain x.path) (by simp; omega) w
        rwa [List.append_assoc] at h
      generalize plain x.path = pt at *
      clear hp hpl hfl
      go_wp2_with fail
      refine (unhide HW _).mono ?_
      rintro e w' ⟨rfl, be⟩
      have HV2 := hide (show Below h w w' ∧ w'.heap[h]? = some (.cells (x.cs (.slice a k cap)) 27) from ⟨(unhide HV).1.trans (be.mono (Nat.le_of_lt (lt_of_heap (unhide HV).2))), (be.block _ (lt_of_heap (unhide HV).2)).trans (unhide HV).2⟩)
      clear be
      go_wp2_with fail
      go_meet
      case rel => exact ⟨by rw [unhide HE], HV2⟩
    | false =>
      have hp : x.path = [] := by
        have := unhide hkk
        simpa using this
      have HE := hide (show l1 = l0 by
        rw [unhide ql1, hp]
        exact List.append_nil _)
      clear hp
      go_wp2_with fail
      go_meet
      case rel => exact ⟨by rw [unhide HE], HV⟩
  case rest =>
  obtain ⟨rfl, HV1⟩ := hcut
  clear hkk HV b1 b2 b3 b4 b5 b6 b7 b8
  obtain ⟨-, b1, b2, b3, b4, b5, b6, b7, b8⟩ := cs9 (unhide HV1).2
  go_upto_if 32 with fail
  obtain ⟨l2, ql2⟩ : ∃ l, l = l1 ++ txts [] x.dst := ⟨_, rfl⟩
  have hl2 : l2.length ≤ 400000000000000 := by
    have h1 := plain_len x.dst
    have h2 : (txts [] x.dst).length ≤ 1 + ([] : List UInt8).length + (plain x.dst).length := seg_len _ _ _
    have h3 := unhide HX
    rw [ql2, List.length_append]
    simp only [List.length_nil] at h2
    omega
  have hl2x : l2.length ≤ l1.length + 1 + 3 * x.dst.length := by
    have h1 := plain_len x.dst
    have h2 : (txts [] x.dst).length ≤ 1 + ([] : List UInt8).length + (plain x.dst).length := seg_len _ _ _
    rw [ql2, List.length_append]
    simp only [List.length_nil] at h2
    omega
  obtain ⟨kk32, hkk⟩ : ∃ kk, (!x.dst.isEmpty) = kk := ⟨_, rfl⟩
  rw [hkk]
  replace hkk := hide hkk
  replace ql2 := hide ql2
  go_cut [4] from 33 to 38 (fun v wd => v = S l2 ∧ Hid (Below h w wd ∧ wd.heap[h]? = some (.cells (x.cs (.slice a k cap)) 27)))
  case first =>
    cases kk32 with
    | true =>
      have hp : 0 < x.dst.length := by
        have := unhide hkk
        cases hc : x.dst with
        | nil => rw [hc] at this; simp at this
        | cons c l => simp
      have HE := hide (show l2 = l1 ++ 32 :: plain x.dst by
        rw [unhide ql2]
        unfold txts seg
        rw [if_pos (by simpa using hp)]
        rfl)
      have HW := hide (fun W => epath_any x.dst (by have := unhide HX; omega) W)
      have hpl := plain_len x.dst
      have hfl : x.dst.length ≤ 40000000000000 := by have := unhide HX; omega
      have a1 : ∀ w : World, (Op.stringOp .add (bs l1) (bs [32])).run Tryd.prog w = .ok (S (l1 ++ [32])) w := fun w => add_run l1 [32] (by simp; omega) w
      have a2 : ∀ w : World, (Op.stringOp .add (bs (l1 ++ [32])) (bs (plain x.dst))).run Tryd.prog w = .ok (S (l1 ++ 32 :: plain x.dst)) w := fun w => by
        have h := add_run (l1 ++ [32]) (plain x.dst) (by simp; omega) w
        rwa [List.append_assoc] at h
      generalize plain x.dst = pt at *
      clear hp hpl hfl
      go_wp2_with fail
      refine (unhide HW _).mono ?_
      rintro e w' ⟨rfl, be⟩
      have HV2 := hide (show Below h w w' ∧ w'.heap[h]? = some (.cells (x.cs (.slice a k cap)) 27) from ⟨(unhide HV1).1.trans (be.mono (Nat.le_of_lt (lt_of_heap (unhide HV1).2))), (be.block _ (lt_of_heap (unhide HV1).2)).trans (unhide HV1).2⟩)
      clear be
      go_wp2_with fail
      go_meet
      case rel => exact ⟨by rw [unhide HE], HV2⟩
    | false =>
      have hp : x.dst = [] := by
        have := unhide hkk
        simpa using this
      have HE := hide (show l2 = l1 by
        rw [unhide ql2, hp]
        exact List.append_nil _)
      clear hp
      go_wp2_with fail
      go_meet
      case rel => exact ⟨by rw [unhide HE], HV1⟩
  case rest =>
  obtain ⟨rfl, HV2⟩ := hcut
  clear hkk HV1 b1 b2 b3 b4 b5 b6 b7 b8
  obtain ⟨-, b1, b2, b3, b4, b5, b6, b7, b8⟩ := cs9 (unhide HV2).2
  have hN := unhide HN
  obtain ⟨efd, qefd⟩ : ∃ e, e = nums wFd x.fd := ⟨_, rfl⟩
  have Efd := hide (show ∀ W, Calls Tryd.prog 42 #[S [102, 100], I x.fd] W fun e w' => e = .returned (S efd) ∧ w' = W from fun W => by
    have h := enumber_any [102, 100] (by decide) x.fd (hN 0).1 (hN 0).2 W
    rw [show nums ([102, 100] ++ [61]) x.fd = efd from qefd.symm] at h
    exact h)
  have lefd : efd.length ≤ 40 := by
    have h1 := itoa_len x.fd (hN 0).1 (hN 0).2
    have h2 : (nums wFd x.fd).length ≤ 1 + wFd.length + (Lib.itoa x.fd).length := seg_len _ _ _
    rw [qefd]
    simp only [List.length_cons, List.length_nil] at h2
    omega
  obtain ⟨efl, qefl⟩ : ∃ e, e = nums wFlags x.fl := ⟨_, rfl⟩
  have Efl := hide (show ∀ W, Calls Tryd.prog 42 #[S [102, 108, 97, 103, 115], I x.fl] W fun e w' => e = .returned (S efl) ∧ w' = W from fun W => by
    have h := enumber_any [102, 108, 97, 103, 115] (by decide) x.fl (hN 1).1 (hN 1).2 W
    rw [show nums ([102, 108, 97, 103, 115] ++ [61]) x.fl = efl from qefl.symm] at h
    exact h)
  have lefl : efl.length ≤ 40 := by
    have h1 := itoa_len x.fl (hN 1).1 (hN 1).2
    have h2 : (nums wFlags x.fl).length ≤ 1 + wFlags.length + (Lib.itoa x.fl).length := seg_len _ _ _
    rw [qefl]
    simp only [List.length_cons, List.length_nil] at h2
    omega
  obtain ⟨emo, qemo⟩ : ∃ e, e = nums wMode x.mo := ⟨_, rfl⟩
  have Emo := hide (show ∀ W, Calls Tryd.prog 42 #[S [109, 111, 100, 101], I x.mo] W fun e w' => e = .returned (S emo) ∧ w' = W from fun W => by
    have h := enumber_any [109, 111, 100, 101] (by decide) x.mo (hN 2).1 (hN 2).2 W
    rw [show nums ([109, 111, 100, 101] ++ [61]) x.mo = emo from qemo.symm] at h
    exact h)
  have lemo : emo.length ≤ 40 := by
    have h1 := itoa_len x.mo (hN 2).1 (hN 2).2
    have h2 : (nums wMode x.mo).length ≤ 1 + wMode.length + (Lib.itoa x.mo).length := seg_len _ _ _
    rw [qemo]
    simp only [List.length_cons, List.length_nil] at h2
    omega
  obtain ⟨en, qen⟩ : ∃ e, e = nums wN x.n := ⟨_, rfl⟩
  have En := hide (show ∀ W, Calls Tryd.prog 42 #[S [110], I x.n] W fun e w' => e = .returned (S en) ∧ w' = W from fun W => by
    have h := enumber_any [110] (by decide) x.n (hN 3).1 (hN 3).2 W
    rw [show nums ([110] ++ [61]) x.n = en from qen.symm] at h
    exact h)
  have len : en.length ≤ 40 := by
    have h1 := itoa_len x.n (hN 3).1 (hN 3).2
    have h2 : (nums wN x.n).length ≤ 1 + wN.length + (Lib.itoa x.n).length := seg_len _ _ _
    rw [qen]
    simp only [List.length_cons, List.length_nil] at h2
    omega
  obtain ⟨em, qem⟩ : ∃ e, e = nums wM x.m := ⟨_, rfl⟩
  have Em := hide (show ∀ W, Calls Tryd.prog 42 #[S [109], I x.m] W fun e w' => e = .returned (S em) ∧ w' = W from fun W => by
    have h := enumber_any [109] (by decide) x.m (hN 4).1 (hN 4).2 W
    rw [show nums ([109] ++ [61]) x.m = em from qem.symm] at h
    exact h)
  have lem : em.length ≤ 40 := by
    have h1 := itoa_len x.m (hN 4).1 (hN 4).2
    have h2 : (nums wM x.m).length ≤ 1 + wM.length + (Lib.itoa x.m).length := seg_len _ _ _
    rw [qem]
    simp only [List.length_cons, List.length_nil] at h2
    omega
  obtain ⟨s0, qs0⟩ : ∃ l, l = l2 ++ efd := ⟨_, rfl⟩
  have A0 : ∀ w : World, (Op.stringOp .add (bs l2) (bs efd)).run Tryd.prog w = .ok (S s0) w := fun w => by rw [qs0]; exact add_run l2 efd (by omega) w
  have ls0 : s0.length ≤ l2.length + 40 := by rw [qs0, List.length_append]; omega
  obtain ⟨s1, qs1⟩ : ∃ l, l = s0 ++ efl := ⟨_, rfl⟩
  have A1 : ∀ w : World, (Op.stringOp .add (bs s0) (bs efl)).run Tryd.prog w = .ok (S s1) w := fun w => by rw [qs1]; exact add_run s0 efl (by omega) w
  have ls1 : s1.length ≤ s0.length + 40 := by rw [qs1, List.length_append]; omega
  obtain ⟨s2, qs2⟩ : ∃ l, l = s1 ++ emo := ⟨_, rfl⟩
  have A2 : ∀ w : World, (Op.stringOp .add (bs s1) (bs emo)).run Tryd.prog w = .ok (S s2) w := fun w => by rw [qs2]; exact add_run s1 emo (by omega) w
  have ls2 : s2.length ≤ s1.length + 40 := by rw [qs2, List.length_append]; omega
  obtain ⟨s3, qs3⟩ : ∃ l, l = s2 ++ en := ⟨_, rfl⟩
  have A3 : ∀ w : World, (Op.stringOp .add (bs s2) (bs en)).run Tryd.prog w = .ok (S s3) w := fun w => by rw [qs3]; exact add_run s2 en (by omega) w
  have ls3 : s3.length ≤ s2.length + 40 := by rw [qs3, List.length_append]; omega
  obtain ⟨s4, qs4⟩ : ∃ l, l = s3 ++ em := ⟨_, rfl⟩
  have A4 : ∀ w : World, (Op.stringOp .add (bs s3) (bs em)).run Tryd.prog w = .ok (S s4) w := fun w => by rw [qs4]; exact add_run s3 em (by omega) w
  have ls4 : s4.length ≤ s3.length + 40 := by rw [qs4, List.length_append]; omega
  have HQ := hide (⟨qefd, qefl, qemo, qen, qem, qs0, qs1, qs2, qs3, qs4⟩ : _ ∧ _ ∧ _ ∧ _ ∧ _ ∧ _ ∧ _ ∧ _ ∧ _ ∧ _)
  clear hN qefd lefd qefl lefl qemo lemo qen len qem lem qs0 qs1 qs2 qs3 qs4 HN
  have hline : x.line = s4 ++ txts wData x.data := by
    obtain ⟨e1, e2, e3, e4, e5, e6, e7, e8, e9, e10⟩ := unhide HQ
    unfold Cc.line
    rw [unhide hL0, e10, e9, e8, e7, e6, unhide ql2, unhide ql1, e1, e2, e3, e4, e5]
    simp only [List.append_assoc]
  have HLN := hide hline
  clear hline
  go_wp2_with fail
  go_region_held3 (fun W' => W'.cell? ⟨h, 3, none⟩ = some (I x.fd) ∧ W'.cell? ⟨h, 4, none⟩ = some (I x.fl) ∧ W'.cell? ⟨h, 5, none⟩ = some (I x.mo) ∧ W'.cell? ⟨h, 6, none⟩ = some (I x.n) ∧ W'.cell? ⟨h, 7, none⟩ = some (I x.m)) (first | exact ⟨by assumption, by assumption, by assumption, by assumption, by assumption⟩ | go_keep)
    (first
      | (go_at_call_has 42 (I x.fd); refine (unhide Efd _).mono ?_; rintro e W' ⟨rfl, rfl⟩)
      | (go_at_call_has 42 (I x.fl); refine (unhide Efl _).mono ?_; rintro e W' ⟨rfl, rfl⟩)
      | (go_at_call_has 42 (I x.mo); refine (unhide Emo _).mono ?_; rintro e W' ⟨rfl, rfl⟩)
      | (go_at_call_has 42 (I x.n); refine (unhide En _).mono ?_; rintro e W' ⟨rfl, rfl⟩)
      | (go_at_call_has 42 (I x.m); refine (unhide Em _).mono ?_; rintro e W' ⟨rfl, rfl⟩))
  by_cases hd : 0 < k
  · have t1 : (0 : Int) < (k : Int) := by omega
    have hkk := unhide hk
    have hpl := plain_len x.data
    have hX := unhide HX
    have HE := hide (show x.line = s4 ++ 32 :: (wData ++ plain x.data) by
      rw [unhide HLN]
      unfold txts seg
      rw [if_pos (by simpa [← hkk] using hd)])
    have HW := hide (fun W => epath_any x.data (by omega) W)
    have hcv := conv_by (W := wc.drew) (((unhide HD).below (below_drew (unhide HV2).1))) k cap hkk
    have a1 : ∀ w : World, (Op.stringOp .add (bs s4) (bs [32, 100, 97, 116, 97, 61])).run Tryd.prog w = .ok (S (s4 ++ [32, 100, 97, 116, 97, 61])) w := fun w => add_run s4 [32, 100, 97, 116, 97, 61] (by simp; omega) w
    have a2 : ∀ w : World, (Op.stringOp .add (bs (s4 ++ [32, 100, 97, 116, 97, 61])) (bs (plain x.data))).run Tryd.prog w = .ok (S (s4 ++ [32, 100, 97, 116, 97, 61] ++ plain x.data)) w := fun w => add_run _ _ (by simp; omega) w
    generalize plain x.data = pt at *
    have hdn : ¬ s4.length + 6 > 9223372036854775807 := by omega
    clear hkk hpl hX hd
    go_wp2_with fail
    refine (unhide HW _).mono ?_
    rintro e w' ⟨rfl, be⟩
    have HB := hide ((below_drew (unhide HV2).1).trans (be.mono (Nat.le_of_lt (lt_of_heap (unhide HV2).2))))
    clear be hcv
    go_wp2_with fail
    go_ret
    exact ⟨by rw [unhide HE]; simp, unhide HB⟩
  · have t1 : ¬ (0 : Int) < (k : Int) := by omega
    have HE := hide (show x.line = s4 by
      rw [unhide HLN]
      unfold txts seg
      rw [if_neg (by rw [← unhide hk]; simp; omega), List.append_nil])
    go_wp2_with fail
    go_ret
    exact ⟨by rw [unhide HE]; rfl, below_drew (unhide HV2).1⟩
end Go.Proofs.YtnkkfomekdipiaaDoor.Cl
