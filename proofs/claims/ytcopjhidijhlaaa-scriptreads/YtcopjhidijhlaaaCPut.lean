/-
  putNumber and putText: numbers and texts as bytes, appended to a row.
-/
import Derived.Test.YtcopjhidijhlaaaCBase
namespace Go.Proofs.Ytcopjhidijhlaaa.Cl
open Go.RowKit
attribute [local go_sem ↓] Go.wp_at_zero Go.wp_at_succ

abbrev I (n : Int) : Value := .int .i64 n
/-- The byte of n behind k others. -/
def byt (n : Int) (k : Nat) : UInt8 := UInt8.ofNat (n / 2 ^ (8 * k) % 256).toNat
theorem byt_val (n : Int) (k : Nat) : ((byt n k).toNat : Int) = n / 2 ^ (8 * k) % 256 := by
  unfold byt
  have h1 := Int.emod_nonneg (n / 2 ^ (8 * k)) (show (256 : Int) ≠ 0 by decide)
  have h2 := Int.emod_lt_of_pos (n / 2 ^ (8 * k)) (show (0 : Int) < 256 by decide)
  generalize n / 2 ^ (8 * k) % 256 = x at *
  rw [UInt8.toNat_ofNat']
  omega
/-- The lowest so many bytes of n, the highest of them first. -/
def be : Nat → Int → List UInt8
  | 0, _ => []
  | k + 1, n => byt n k :: be k n
theorem be_len (k : Nat) (n : Int) : (be k n).length = k := by
  induction k with
  | zero => rfl
  | succ k ih => simp [be, ih]

set_option maxRecDepth 100000 in
set_option maxHeartbeats 1000000 in
theorem putN_any (B : Nat) (v : Value) (l : List UInt8) (n : Int) (s : Nat) (hs : s ≤ 8) (w : World) (h : Bw w B v l) (hb : B ≤ w.heap.size) (hl : l.length ≤ 140737488355000) :
    Calls Try.prog 41 #[v, I n, I (s : Int)] w fun e w' => ∃ v', e = .returned v' ∧ Bw w' B v' (l ++ be s n) ∧ Kp B w w' := by
  go_enter Try.func41, Try.ntmps41
  go_wp2_with fail
  go_loopw [0, 7] (fun v i wr => ∃ (k : Nat) (v' : Value) (m : List UInt8), k ≤ s ∧ i = .int .i64 ((k : Int) - 1) ∧ v = v' ∧ Bw wr B v' (l ++ m) ∧ m ++ be k n = be s n ∧ Kp B w wr) (fun _ i _ => ((intOf i) + 1).toNat)
  case atStart => exact ⟨s, v, [], Nat.le_refl _, by go_num, rfl, by simpa using h, by simp, Kp.refl _ _⟩
  case round =>
    obtain ⟨k, v', m, hk, rfl, rfl, hw, hm, hK⟩ := hrel
    cases k with
    | zero =>
      have j1 : ¬ (0 : Int) ≤ ((0 : Nat) : Int) - 1 := by omega
      have HK := hide (⟨hw, hm, hK⟩ : _ ∧ _ ∧ _)
      clear hw hm hK h
      go_wp2_with fail
      go_ret
      obtain ⟨hw, hm, hK⟩ := unhide HK
      exact ⟨_, rfl, by simpa [be, ← hm] using hw, hK⟩
    | succ j =>
      have j0 : (0 : Int) ≤ (j : Int) := by omega
      have j2 : (j : Int) < 8 := by omega
      have e1 : (((j + 1 : Nat) : Int) - 1) = (j : Int) := by omega
      rw [e1]
      have hml : m.length ≤ s := by
        have := congrArg List.length hm
        rw [List.length_append, be_len, be_len] at this
        omega
      have hbw : B ≤ wr.heap.size := Nat.le_trans hb hK.be.size
      obtain ⟨v2, W2, hrun, hw2, hK2⟩ := hw.new hbw 22 [byt n j] 1 rfl #[.int .u8 (n / 2 ^ (8 * j) % 256)] (by simp [Lib.byteCells, byt_val]) (by simp; omega)
      have HK := hide (⟨hw2, hm, hK, hK2⟩ : _ ∧ _ ∧ _ ∧ _)
      clear hw hm hK h e1 hw2 hK2 hml hbw hl hb
      go_wp2_with (at_builtin; refine wpList_app rfl _ _ 22 22 rfl 22 rfl _ _ (by rfl) (by rfl) _ _ hrun ?_)
      obtain ⟨hw2, hm, hK, hK2⟩ := unhide HK
      exact ⟨⟨j, _, m ++ [byt n j], by omega, rfl, rfl, by simpa using hw2, by rw [← hm]; simp [be], hK.trans hK2⟩, by simp [intOf]⟩

set_option maxRecDepth 100000 in
set_option maxHeartbeats 1000000 in
theorem putS_any (B : Nat) (v : Value) (l t : List UInt8) (w : World) (h : Bw w B v l) (hb : B ≤ w.heap.size) (hl : l.length + t.length ≤ 140737488355000) :
    Calls Try.prog 42 #[v, S t] w fun e w' => ∃ v', e = .returned v' ∧ Bw w' B v' (l ++ (be 2 t.length ++ t)) ∧ Kp B w w' := by
  have HP := hide (putN_any B v l t.length 2 (by omega) w h hb (by omega))
  clear h
  go_enter Try.func42, Try.ntmps42
  go_wp2_with fail
  refine (unhide HP).mono ?_
  rintro e w1 ⟨v1, rfl, h1, k1⟩
  obtain ⟨v2, w2, hrun, h2, k2⟩ := h1.str (Nat.le_trans hb k1.be.size) 22 t (by rw [List.length_append, be_len]; omega)
  have HK := hide (⟨h2, k1.trans k2⟩ : _ ∧ _)
  clear h1 k1 h2 k2 HP hb hl
  go_wp2_with (at_builtin; refine wpList_app rfl _ _ 22 9 rfl 22 rfl _ _ (by rfl) (by rfl) _ _ hrun ?_)
  go_ret
  exact ⟨_, rfl, by simpa using (unhide HK).1, (unhide HK).2⟩

set_option maxRecDepth 100000 in
set_option maxHeartbeats 1000000 in
theorem putB_any (B : Nat) (v : Value) (l t : List UInt8) (a : Option Addr) (n c : Nat) (hn : n = t.length) (w : World) (h : Bw w B v l) (hb : B ≤ w.heap.size) (ht : By w B a t) (hl : l.length + t.length ≤ 140737488355000) :
    Calls Try.prog 43 #[v, .slice a n c] w fun e w' => ∃ v', e = .returned v' ∧ Bw w' B v' (l ++ (be 2 t.length ++ t)) ∧ Kp B w w' := by
  subst hn
  have HP := hide (putN_any B v l t.length 2 (by omega) w h hb (by omega))
  have HT := hide ht
  clear h ht
  go_enter Try.func43, Try.ntmps43
  go_wp2_with fail
  refine (unhide HP).mono ?_
  rintro e w1 ⟨v1, rfl, h1, k1⟩
  have hb1 : B ≤ w1.heap.size := Nat.le_trans hb k1.be.size
  obtain ⟨v2, w2, hrun, h2, k2⟩ := h1.app hb1 22 a t t.length c rfl (((unhide HT).below k1.be).mono hb1) (by rw [List.length_append, be_len]; omega)
  have HK := hide (⟨h2, k1.trans k2⟩ : _ ∧ _)
  clear h1 k1 h2 k2 HP hb hl hb1
  go_wp2_with (at_builtin; refine wpList_app rfl _ _ 22 22 rfl 22 rfl _ _ (by rfl) (by rfl) _ _ hrun ?_)
  go_ret
  exact ⟨_, rfl, by simpa using (unhide HK).1, (unhide HK).2⟩
end Go.Proofs.Ytcopjhidijhlaaa.Cl
