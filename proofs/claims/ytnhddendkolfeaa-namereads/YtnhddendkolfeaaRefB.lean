/-
  The document's Write.
-/
import Derived.Test.YtnhddendkolfeaaRefA
import Derived.Test.YtnhddendkolfeaaBackA
namespace Go.Proofs.Ytnhddendkolfeaa
open Go.RowKit
attribute [local go_sem ↓] Go.wp_at_zero Go.wp_at_succ

set_option maxRecDepth 100000 in
set_option maxHeartbeats 2000000 in
theorem rwr_root (s : Bool) (q : List (List UInt8)) (n : Nat) (hn : q.length = n) (hn2 : n ≤ 100000) (a : Option Addr) (cap : Nat) (w : World) (hrow : RowO w a q) (hsz : wt q ≤ 100000) :
    Calls Try.prog 21 #[.agg #[.bool true, .bool s, .slice a n cap]] w fun e w' => e = .returned (S (pw true s q)) ∧ Below w.heap.size w w' := by
  obtain ⟨V, hV, BV, bV⟩ := box (W := w) (.cells #[.bool true, .bool s, .slice a n cap] 33)
  have c0 : V.cell? ⟨w.heap.size, 0, none⟩ = some (.bool true) := by rw [cell_of bV]; rfl
  have c1 : V.cell? ⟨w.heap.size, 1, none⟩ = some (.bool s) := by rw [cell_of bV]; rfl
  have c2 : V.cell? ⟨w.heap.size, 2, none⟩ = some (.slice a n cap) := by rw [cell_of bV]; rfl
  have HR := hide (hrow.below BV)
  have HB := hide BV
  have HN := hide hn
  clear bV BV hrow hn
  go_enter Try.func21, Try.ntmps21
  go_wp2_with fail
  generalize hH : w.heap.size = h at *
  have HH := hide hH
  clear hV hH
  go_loopw [3, 4] (fun t i wr => ∃ k : Nat, k ≤ n ∧ i = .int .i64 k ∧ t = S (([47] : List UInt8) ++ joinS (q.take k)) ∧ wr = V) (fun _ i _ => n - (intOf i).toNat)
  case atStart => exact ⟨0, by omega, rfl, by simp [joinS], rfl⟩
  case round =>
    obtain ⟨k, hk, rfl, rfl, rfl⟩ := hrel
    have hb1 : (joinS (q.take k)).length ≤ 100000 := Nat.le_trans (join_le _) (Nat.le_trans (wt_take q k) hsz)
    have s0l : (([47] : List UInt8) ++ joinS (q.take k)).length ≤ 100001 := by rw [List.length_append]; simp; omega
    by_cases hlt : k < n
    · have j0 : (0 : Int) ≤ (k : Int) := by omega
      have j1 : (k : Int) < (n : Int) := by omega
      obtain ⟨x, hx⟩ : ∃ x, q[k]? = some x := ⟨_, List.getElem?_eq_getElem (by rw [unhide HN]; exact hlt)⟩
      obtain ⟨b, off, rfl, hb, cx⟩ := unhide HR k x hx
      have hjt := join_take q k x hx
      have hb2 : (joinS (q.take (k + 1))).length ≤ 100000 := Nat.le_trans (join_le _) (Nat.le_trans (wt_take q _) hsz)
      rw [hjt, List.length_append, List.length_append] at hb2
      have xl : x.length ≤ 100000 := by omega
      by_cases h0 : 0 < k
      · have k0 : (0 : Int) < (k : Int) := by omega
        rw [if_pos h0] at hjt
        obtain ⟨s1, hs1⟩ : ∃ s1, ([47] : List UInt8) ++ joinS (q.take k) ++ [47] = s1 := ⟨_, rfl⟩
        obtain ⟨s2, hs2⟩ : ∃ s2, s1 ++ x = s2 := ⟨_, rfl⟩
        have s1l : s1.length ≤ 100002 := by rw [← hs1, List.length_append]; simp at s0l ⊢; omega
        have HS : Hid (s2 = ([47] : List UInt8) ++ joinS (q.take (k + 1))) := hide (by rw [hjt, ← hs2, ← hs1]; simp)
        generalize ([47] : List UInt8) ++ joinS (q.take k) = s0 at *
        have t1 : bs s0 ++ (⟨#[47]⟩ : ByteArray) = bs s1 := by rw [← hs1]; exact cat_two s0 [47]
        have t2 : bs s1 ++ bs x = bs s2 := by rw [← hs2]; exact cat_two s1 x
        clear hx hjt hb2 hb1 hs1 hs2 h0
        go_wp2_with fail
        exact ⟨⟨k + 1, by omega, rfl, by rw [← unhide HS], trivial⟩, by simp [intOf]; omega⟩
      · obtain rfl : k = 0 := by omega
        rw [if_neg h0, List.nil_append] at hjt
        obtain ⟨s2, hs2⟩ : ∃ s2, ([47] : List UInt8) ++ joinS (q.take 0) ++ x = s2 := ⟨_, rfl⟩
        have HS : Hid (s2 = ([47] : List UInt8) ++ joinS (q.take 1)) := hide (by rw [hjt, ← hs2]; simp)
        generalize ([47] : List UInt8) ++ joinS (q.take 0) = s0 at *
        have t2 : bs s0 ++ bs x = bs s2 := by rw [← hs2]; exact cat_two s0 x
        have cx0 : wr.cell? ⟨b, off, none⟩ = some (.string (bs x)) := cx
        have k0 : ¬ ((0 : Int) < ((0 : Nat) : Int)) := by omega
        clear hx hjt hb2 hb1 hs2 h0 cx
        go_wp2_with fail
        exact ⟨⟨1, by omega, rfl, by rw [← unhide HS], trivial⟩, by simp [intOf]; omega⟩
    · obtain rfl : k = n := by omega
      have j1 : ¬ (k : Int) < (k : Int) := by omega
      have hq : q.take k = q := List.take_of_length_le (by rw [unhide HN]; exact Nat.le_refl _)
      rw [hq] at s0l ⊢
      clear hq hb1
      by_cases h0 : 0 < k
      · have k0 : (0 : Int) < (k : Int) := by omega
        have hne : q.isEmpty = false := by
          cases q with
          | nil => have := unhide HN; simp at this; omega
          | cons _ _ => rfl
        cases s with
        | true =>
          have hw : Hid (pw true true q = ([47] : List UInt8) ++ joinS q ++ [47]) := hide (by simp [pw, hne])
          generalize ([47] : List UInt8) ++ joinS q = s0 at *
          obtain ⟨s1, hs1⟩ : ∃ s1, s0 ++ [47] = s1 := ⟨_, rfl⟩
          have t1 : bs s0 ++ (⟨#[47]⟩ : ByteArray) = bs s1 := by rw [← hs1]; exact cat_two s0 [47]
          rw [hs1] at hw
          clear h0 hne hs1
          go_wp2_with fail
          go_ret
          exact ⟨by rw [unhide hw]; rfl, by rw [unhide HH]; exact unhide HB⟩
        | false =>
          have hw : Hid (pw true false q = ([47] : List UInt8) ++ joinS q) := hide (by simp [pw])
          clear h0 hne
          go_wp2_with fail
          go_ret
          exact ⟨by rw [unhide hw]; rfl, by rw [unhide HH]; exact unhide HB⟩
      · obtain rfl : k = 0 := by omega
        have hq0 : q = [] := List.length_eq_zero_iff.1 (unhide HN)
        have hw : Hid (pw true s q = ([47] : List UInt8) ++ joinS q) := hide (by simp [pw, hq0])
        clear h0 hq0
        cases s with
        | true =>
          go_wp2_with fail
          go_ret
          exact ⟨by rw [unhide hw]; rfl, by rw [unhide HH]; exact unhide HB⟩
        | false =>
          go_wp2_with fail
          go_ret
          exact ⟨by rw [unhide hw]; rfl, by rw [unhide HH]; exact unhide HB⟩
set_option maxRecDepth 100000 in
set_option maxHeartbeats 2000000 in
theorem rwr_bare (s : Bool) (q : List (List UInt8)) (n : Nat) (hn : q.length = n) (hn2 : n ≤ 100000) (a : Option Addr) (cap : Nat) (w : World) (hrow : RowO w a q) (hsz : wt q ≤ 100000) :
    Calls Try.prog 21 #[.agg #[.bool false, .bool s, .slice a n cap]] w fun e w' => e = .returned (S (pw false s q)) ∧ Below w.heap.size w w' := by
  obtain ⟨V, hV, BV, bV⟩ := box (W := w) (.cells #[.bool false, .bool s, .slice a n cap] 33)
  have c0 : V.cell? ⟨w.heap.size, 0, none⟩ = some (.bool false) := by rw [cell_of bV]; rfl
  have c1 : V.cell? ⟨w.heap.size, 1, none⟩ = some (.bool s) := by rw [cell_of bV]; rfl
  have c2 : V.cell? ⟨w.heap.size, 2, none⟩ = some (.slice a n cap) := by rw [cell_of bV]; rfl
  have HR := hide (hrow.below BV)
  have HB := hide BV
  have HN := hide hn
  clear bV BV hrow hn
  go_enter Try.func21, Try.ntmps21
  go_wp2_with fail
  generalize hH : w.heap.size = h at *
  have HH := hide hH
  clear hV hH
  go_loopw [3, 4] (fun t i wr => ∃ k : Nat, k ≤ n ∧ i = .int .i64 k ∧ t = S (([] : List UInt8) ++ joinS (q.take k)) ∧ wr = V) (fun _ i _ => n - (intOf i).toNat)
  case atStart => exact ⟨0, by omega, rfl, by simp [joinS], rfl⟩
  case round =>
    obtain ⟨k, hk, rfl, rfl, rfl⟩ := hrel
    have hb1 : (joinS (q.take k)).length ≤ 100000 := Nat.le_trans (join_le _) (Nat.le_trans (wt_take q k) hsz)
    have s0l : (([] : List UInt8) ++ joinS (q.take k)).length ≤ 100001 := by rw [List.length_append]; simp; omega
    by_cases hlt : k < n
    · have j0 : (0 : Int) ≤ (k : Int) := by omega
      have j1 : (k : Int) < (n : Int) := by omega
      obtain ⟨x, hx⟩ : ∃ x, q[k]? = some x := ⟨_, List.getElem?_eq_getElem (by rw [unhide HN]; exact hlt)⟩
      obtain ⟨b, off, rfl, hb, cx⟩ := unhide HR k x hx
      have hjt := join_take q k x hx
      have hb2 : (joinS (q.take (k + 1))).length ≤ 100000 := Nat.le_trans (join_le _) (Nat.le_trans (wt_take q _) hsz)
      rw [hjt, List.length_append, List.length_append] at hb2
      have xl : x.length ≤ 100000 := by omega
      by_cases h0 : 0 < k
      · have k0 : (0 : Int) < (k : Int) := by omega
        rw [if_pos h0] at hjt
        obtain ⟨s1, hs1⟩ : ∃ s1, ([] : List UInt8) ++ joinS (q.take k) ++ [47] = s1 := ⟨_, rfl⟩
        obtain ⟨s2, hs2⟩ : ∃ s2, s1 ++ x = s2 := ⟨_, rfl⟩
        have s1l : s1.length ≤ 100002 := by rw [← hs1, List.length_append]; simp at s0l ⊢; omega
        have HS : Hid (s2 = ([] : List UInt8) ++ joinS (q.take (k + 1))) := hide (by rw [hjt, ← hs2, ← hs1]; simp)
        generalize ([] : List UInt8) ++ joinS (q.take k) = s0 at *
        have t1 : bs s0 ++ (⟨#[47]⟩ : ByteArray) = bs s1 := by rw [← hs1]; exact cat_two s0 [47]
        have t2 : bs s1 ++ bs x = bs s2 := by rw [← hs2]; exact cat_two s1 x
        clear hx hjt hb2 hb1 hs1 hs2 h0
        go_wp2_with fail
        exact ⟨⟨k + 1, by omega, rfl, by rw [← unhide HS], trivial⟩, by simp [intOf]; omega⟩
      · obtain rfl : k = 0 := by omega
        rw [if_neg h0, List.nil_append] at hjt
        obtain ⟨s2, hs2⟩ : ∃ s2, ([] : List UInt8) ++ joinS (q.take 0) ++ x = s2 := ⟨_, rfl⟩
        have HS : Hid (s2 = ([] : List UInt8) ++ joinS (q.take 1)) := hide (by rw [hjt, ← hs2]; simp)
        generalize ([] : List UInt8) ++ joinS (q.take 0) = s0 at *
        have t2 : bs s0 ++ bs x = bs s2 := by rw [← hs2]; exact cat_two s0 x
        have cx0 : wr.cell? ⟨b, off, none⟩ = some (.string (bs x)) := cx
        have k0 : ¬ ((0 : Int) < ((0 : Nat) : Int)) := by omega
        clear hx hjt hb2 hb1 hs2 h0 cx
        go_wp2_with fail
        exact ⟨⟨1, by omega, rfl, by rw [← unhide HS], trivial⟩, by simp [intOf]; omega⟩
    · obtain rfl : k = n := by omega
      have j1 : ¬ (k : Int) < (k : Int) := by omega
      have hq : q.take k = q := List.take_of_length_le (by rw [unhide HN]; exact Nat.le_refl _)
      rw [hq] at s0l ⊢
      clear hq hb1
      by_cases h0 : 0 < k
      · have k0 : (0 : Int) < (k : Int) := by omega
        have hne : q.isEmpty = false := by
          cases q with
          | nil => have := unhide HN; simp at this; omega
          | cons _ _ => rfl
        cases s with
        | true =>
          have hw : Hid (pw false true q = ([] : List UInt8) ++ joinS q ++ [47]) := hide (by simp [pw, hne])
          generalize ([] : List UInt8) ++ joinS q = s0 at *
          obtain ⟨s1, hs1⟩ : ∃ s1, s0 ++ [47] = s1 := ⟨_, rfl⟩
          have t1 : bs s0 ++ (⟨#[47]⟩ : ByteArray) = bs s1 := by rw [← hs1]; exact cat_two s0 [47]
          rw [hs1] at hw
          clear h0 hne hs1
          go_wp2_with fail
          go_ret
          exact ⟨by rw [unhide hw]; rfl, by rw [unhide HH]; exact unhide HB⟩
        | false =>
          have hw : Hid (pw false false q = ([] : List UInt8) ++ joinS q) := hide (by simp [pw])
          clear h0 hne
          go_wp2_with fail
          go_ret
          exact ⟨by rw [unhide hw]; rfl, by rw [unhide HH]; exact unhide HB⟩
      · obtain rfl : k = 0 := by omega
        have hq0 : q = [] := List.length_eq_zero_iff.1 (unhide HN)
        have hw : Hid (pw false s q = ([] : List UInt8) ++ joinS q) := hide (by simp [pw, hq0])
        clear h0 hq0
        cases s with
        | true =>
          go_wp2_with fail
          go_ret
          exact ⟨by rw [unhide hw]; rfl, by rw [unhide HH]; exact unhide HB⟩
        | false =>
          go_wp2_with fail
          go_ret
          exact ⟨by rw [unhide hw]; rfl, by rw [unhide HH]; exact unhide HB⟩
theorem rwr_any (r s : Bool) (q : List (List UInt8)) (n : Nat) (hn : q.length = n) (a : Option Addr) (cap : Nat) (w : World) (hrow : RowO w a q) (hsz : wt q ≤ 100000) :
    Calls Try.prog 21 #[.agg #[.bool r, .bool s, .slice a n cap]] w fun e w' => e = .returned (S (pw r s q)) ∧ Below w.heap.size w w' := by
  have h2 : ∀ q : List (List UInt8), q.length ≤ wt q := by
    intro q
    induction q with
    | nil => simp
    | cons p r ih => simp [wt]; omega
  have := h2 q
  cases r
  · exact rwr_bare s q n hn (by omega) a cap w hrow hsz
  · exact rwr_root s q n hn (by omega) a cap w hrow hsz
end Go.Proofs.Ytnhddendkolfeaa
