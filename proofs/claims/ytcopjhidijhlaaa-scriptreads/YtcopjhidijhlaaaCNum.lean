/-
  The reader's number and text.
-/
import Derived.Test.YtcopjhidijhlaaaCTake
namespace Go.Proofs.Ytcopjhidijhlaaa.Cl
open Go.RowKit
attribute [local go_sem ↓] Go.wp_at_zero Go.wp_at_succ

/-- The number that bytes are, the highest first. -/
def nat (l : List UInt8) : Nat := l.foldl (fun n c => n * 256 + c.toNat) 0
theorem nat_snoc (l : List UInt8) (c : UInt8) : nat (l ++ [c]) = nat l * 256 + c.toNat := by simp [nat]
theorem nat_lt (l : List UInt8) : nat l < 256 ^ l.length := by
  generalize hn : l.length = n
  induction n generalizing l with
  | zero => obtain rfl := List.eq_nil_of_length_eq_zero hn; simp [nat]
  | succ n ih =>
    obtain ⟨m, c, rfl⟩ : ∃ m c, l = m ++ [c] := ⟨l.dropLast, l.getLast (by rintro rfl; simp at hn), (List.dropLast_concat_getLast _).symm⟩
    have h1 := ih m (by simpa using hn)
    have h2 := c.toNat_lt
    rw [nat_snoc, Nat.pow_succ]
    omega
theorem or_add (n : Nat) (c : Nat) (hc : c < 256) : n * 256 ||| c = n * 256 + c := by
  have := Nat.two_pow_add_eq_or_of_lt (i := 8) (b := c) (by simpa using hc) n
  rw [show (2 : Nat) ^ 8 = 256 from rfl] at this
  rw [Nat.mul_comm, this]
theorem or_bits (x c : Nat) (hx : x < 16777216) (hc : c < 256) : bits .or .i64 ((x : Int) * 256) (c : Int) = ((x * 256 + c : Nat) : Int) := by
  have e0 : ((x : Int) * 256) = ((x * 256 : Nat) : Int) := by omega
  rw [e0]
  show IntKind.i64.wrap ((BitVec.ofInt 64 ((x * 256 : Nat) : Int) ||| BitVec.ofInt 64 (c : Int)).toNat : Int) = _
  rw [BitVec.ofInt_natCast, BitVec.ofInt_natCast, BitVec.toNat_or, BitVec.toNat_ofNat, BitVec.toNat_ofNat, Nat.mod_eq_of_lt (by omega), Nat.mod_eq_of_lt (by omega), or_add x c hc, IntKind.wrap_i64]
  omega
set_option maxRecDepth 100000 in
set_option maxHeartbeats 1000000 in
theorem number_any (B r : Nat) (a : Option Addr) (cap : Nat) (l : List UInt8) (cut : Bool) (s : Nat) (hs : s ≤ 4) (W : World) (h : Rd W B r a cap l cut) :
    Calls Try.prog 48 #[Pt r 0, I s] W fun e W' => e = .returned (I (nat (tkn s l))) ∧ (∃ a' cap', Rd W' B r a' cap' (lft s l) (ctt s l cut)) ∧ Gr r W W' := by
  have HT := hide (take_any B r a cap l cut s (by omega) W h)
  have htl : (tkn s l).length ≤ 4 := by unfold tkn; split <;> simp; omega
  clear h
  generalize tkn s l = t at *
  go_enter Try.func48, Try.ntmps48
  go_wp2_with fail
  refine (unhide HT).mono ?_
  rintro e W1 ⟨a1, c1, a2, c2, n, rfl, hn, hby, hrd, hgr⟩
  have HN := hide hn
  have hn4 : n ≤ 4 := by omega
  have HB := hide hby
  have HR := hide (⟨hrd, hgr⟩ : _ ∧ _)
  clear hn hby hrd hgr HT
  go_wp2_with fail
  go_loopw [5, 12] (fun v i wr => ∃ k : Nat, k ≤ n ∧ i = .int .i64 k ∧ v = .int .i64 (nat (t.take k)) ∧ wr = W1) (fun _ i _ => n - (intOf i).toNat)
  case atStart => exact ⟨0, by omega, rfl, by simp [nat], rfl⟩
  case round =>
    obtain ⟨k, hk, rfl, rfl, rfl⟩ := hrel
    by_cases hkn : k < n
    · have hkt : k < t.length := by have := unhide HN; omega
      obtain ⟨b, off, rfl, -, hc⟩ := unhide HB k _ (List.getElem?_eq_getElem hkt)
      have j1 : (k : Int) < (n : Int) := by omega
      have j0 : (0 : Int) ≤ (k : Int) := by omega
      have hb := nat_lt (t.take k)
      rw [List.length_take] at hb
      have hb2 : nat (t.take k) < 16777216 := Nat.lt_of_lt_of_le hb (by
        have : min k t.length ≤ 3 := by omega
        calc 256 ^ (min k t.length) ≤ 256 ^ 3 := Nat.pow_le_pow_right (by decide) this
          _ = 16777216 := rfl)
      have hq : nat (t.take (k + 1)) = nat (t.take k) * 256 + t[k].toNat := by
        rw [List.take_add_one, List.getElem?_eq_getElem hkt]; exact nat_snoc _ _
      have hc2 := t[k].toNat_lt
      generalize t[k].toNat = c at *
      generalize nat (t.take k) = x at *
      have HQ := hide hq
      clear hb hq
      go_wp2_with fail
      refine ⟨⟨k + 1, by omega, by simp, ?_, trivial⟩, by simp [intOf]; omega⟩
      rw [unhide HQ, or_bits x c (by omega) (by simpa using hc2)]
    · obtain rfl : k = n := by omega
      have ht : t.take k = t := List.take_of_length_le (by have := unhide HN; omega)
      rw [ht]
      go_wp2_with fail
      go_ret
      exact ⟨rfl, ⟨_, _, (unhide HR).1⟩, (unhide HR).2⟩
set_option maxRecDepth 100000 in
set_option maxHeartbeats 1000000 in
theorem text_any (B r : Nat) (a : Option Addr) (cap : Nat) (l : List UInt8) (cut : Bool) (W : World) (h : Rd W B r a cap l cut) :
    Calls Try.prog 49 #[Pt r 0] W fun e W' => ∃ a1 c1 a2 c2 n, e = .returned (.slice a1 n c1) ∧ n = (tkn (nat (tkn 2 l)) (lft 2 l)).length ∧ By W' B a1 (tkn (nat (tkn 2 l)) (lft 2 l)) ∧ Rd W' B r a2 c2 (lft (nat (tkn 2 l)) (lft 2 l)) (ctt (nat (tkn 2 l)) (lft 2 l) (ctt 2 l cut)) ∧ Gr r W W' := by
  have HT := hide (number_any B r a cap l cut 2 (by omega) W h)
  have hlt : nat (tkn 2 l) ≤ 100000 := by
    have h1 := nat_lt (tkn 2 l)
    have h2 : (tkn 2 l).length ≤ 2 := by unfold tkn; split <;> simp; omega
    have h3 : 256 ^ (tkn 2 l).length ≤ 256 ^ 2 := Nat.pow_le_pow_right (by decide) h2
    omega
  clear h
  generalize nat (tkn 2 l) = s at *
  generalize lft 2 l = l1 at *
  generalize ctt 2 l cut = u1 at *
  go_enter Try.func49, Try.ntmps49
  go_wp2_with fail
  refine (unhide HT).mono ?_
  rintro e W1 ⟨rfl, ⟨a2, c2, h1⟩, g1⟩
  have HG := hide g1
  have HT2 := hide (take_any B r a2 c2 l1 u1 s hlt W1 h1)
  clear g1 h1 HT
  go_wp2_with fail
  refine (unhide HT2).mono ?_
  rintro e W2 ⟨a3, c3, a4, c4, n, rfl, e1, e2, e3, e4⟩
  have HE := hide (⟨e1, e2, e3, e4⟩ : _ ∧ _ ∧ _ ∧ _)
  clear e1 e2 e3 e4 HT2
  go_wp2_with fail
  go_ret
  obtain ⟨e1, e2, e3, e4⟩ := unhide HE
  exact ⟨a3, c3, a4, c4, n, rfl, e1, e2, e3, (unhide HG).trans e4⟩
end Go.Proofs.Ytcopjhidijhlaaa.Cl
