/-
  The contract of Write.
-/
import Derived.Test.YtnhddendkolfeaaBuild
import Derived.Test.YtnhddendkolfeaaFly
namespace Go.Proofs.Ytnhddendkolfeaa
open Go.RowKit
attribute [local go_sem ↓] Go.wp_at_zero Go.wp_at_succ

/-- What lies while Write goes on: the path, and the builder behind it. -/
structure WJ (w W : World) (h : Nat) (r s : Bool) (v : Value) (acc : List UInt8) : Prop where
  be : Below h w W
  bx : W.heap[h]? = some (.cells #[.bool r, .bool s, v] 24)
  bd : Lib.IsBuilder 54 5 (h + 1) (h + 1) (Lib.byteCells acc) W
theorem WJ.sz {w W : World} {h : Nat} {r s : Bool} {v : Value} {acc : List UInt8} (J : WJ w W h r s v acc) : h + 1 < W.heap.size := by
  rcases J.bd with hb | hb <;> exact hb.lt
theorem WJ.write {w W : World} {h : Nat} {r s : Bool} {v : Value} {acc : List UInt8} (J : WJ w W h r s v acc) (l : List UInt8) (hl : acc.length + l.length ≤ 1000000000) :
    Calls Try.prog 31 #[.pointer (some ⟨h + 1, 0, none⟩), S l] W fun e w' => e = .returned (.tuple #[.int .i64 l.length, .nilIface]) ∧ WJ w w' h r s v (acc ++ l) := by
  have := J.sz
  refine (write_any (h + 1) (h + 1) acc l W J.bd (by omega) (by omega)).mono ?_
  rintro e w' ⟨rfl, h1, h2⟩
  exact ⟨rfl, J.be.trans (h2.mono (by omega)), (h2.block h (by omega)).trans J.bx, h1⟩
theorem WJ.cells {w W : World} {h : Nat} {r s : Bool} {v : Value} {acc : List UInt8} (J : WJ w W h r s v acc) : W.cell? ⟨h, 0, none⟩ = some (.bool r) ∧ W.cell? ⟨h, 1, none⟩ = some (.bool s) ∧ W.cell? ⟨h, 2, none⟩ = some v := by
  refine ⟨?_, ?_, ?_⟩ <;> rw [cell_of J.bx] <;> rfl
theorem WJ.done {w W : World} {h : Nat} {r s : Bool} {v : Value} {acc : List UInt8} (J : WJ w W h r s v acc) :
    Calls Try.prog 32 #[.pointer (some ⟨h + 1, 0, none⟩)] W fun e w' => e = .returned (S acc) ∧ Below h w w' := by
  have := J.sz
  refine (Try.Builder_String_any (h + 1) (h + 1) acc W J.bd (by omega)).mono ?_
  rintro e w' ⟨rfl, h2⟩
  exact ⟨rfl, J.be.trans (h2.mono (by omega))⟩
theorem join_take (q : List (List UInt8)) (i : Nat) (x : List UInt8) (h : q[i]? = some x) : joinS (q.take (i + 1)) = joinS (q.take i) ++ ((if 0 < i then [47] else []) ++ x) := by
  induction q generalizing i with
  | nil => simp at h
  | cons p r ih =>
    cases i with
    | zero => simp at h; subst h; simp [joinS]
    | succ j =>
      have h1 : r[j]? = some x := by simpa using h
      have h2 := ih j h1
      rw [List.take_succ_cons, List.take_succ_cons]
      cases r with
      | nil => simp at h1
      | cons y t =>
        cases j with
        | zero =>
          simp at h1; subst h1
          simp [joinS]
        | succ k =>
          rw [List.take_succ_cons] at h2 ⊢
          rw [List.take_succ_cons] at h2 ⊢
          rw [joinS_cons, joinS_cons, h2]
          simp
theorem wt_take (q : List (List UInt8)) (i : Nat) : wt (q.take i) ≤ wt q := by
  have h := wt_app (q.take i) (q.drop i)
  rw [List.take_append_drop] at h
  omega

set_option maxRecDepth 100000 in
set_option maxHeartbeats 2000000 in
theorem wr_root (s : Bool) (q : List (List UInt8)) (n : Nat) (hn : q.length = n) (hn2 : n ≤ 100000000) (a : Option Addr) (cap : Nat) (w : World) (hrow : RowO w a q) (hsz : wt q ≤ 100000000) :
    Calls Try.prog 20 #[.agg #[.bool true, .bool s, .slice a n cap]] w fun e w' => e = .returned (S (pw true s q)) ∧ Below w.heap.size w w' := by
  obtain ⟨V, hV, hsz0, g0, g1, hB⟩ := two0 w (.cells #[.bool true, .bool s, .slice a n cap] 24) (.cells #[.pointer none, .slice none 0 0] 54)
  replace hV := hide hV
  generalize hh : w.heap.size = h at *
  have J0 : WJ w V h true s (.slice a n cap) [] := ⟨hB, g0, .inl ⟨Nat.le_refl _, .slice none 0 0, g1, World.ownsRow_nil _ _ _ _, by simp [Value.ownBlock]⟩⟩
  replace J0 := hide J0
  have HROW := hide hrow
  have HH := hide hh
  have HN := hide hn
  clear hB g0 g1 hsz0 hrow hn
  go_enter Try.func20, Try.ntmps20
  go_wp2_with fail
  rw [unhide hV]
  refine ((unhide J0).write [47] (by simp)).mono ?_
  rintro e w1 ⟨rfl, J1⟩
  replace J1 := hide J1
  clear J0
  obtain ⟨e0, e1, e2⟩ := (unhide J1).cells
  go_wp2_with fail
  clear e0 e1 e2
  go_loopw [12] (fun i wr => ∃ k : Nat, k ≤ n ∧ i = .int .i64 k ∧ WJ w wr h true s (.slice a n cap) (([47] : List UInt8) ++ joinS (q.take k))) (fun i _ => n - (intOf i).toNat)
  case atStart => exact ⟨0, by omega, rfl, by simpa [joinS] using unhide J1⟩
  case round =>
    obtain ⟨k, hk, rfl, J⟩ := hrel
    by_cases hlt : k < n
    · have j0 : (0 : Int) ≤ (k : Int) := by omega
      have j1 : (k : Int) < (n : Int) := by omega
      obtain ⟨x, hx⟩ : ∃ x, q[k]? = some x := ⟨_, List.getElem?_eq_getElem (by rw [unhide HN]; exact hlt)⟩
      obtain ⟨b, off, rfl, hb, c1⟩ := unhide HROW k x hx
      have c2 : wr.cell? ⟨b, off + k, none⟩ = some (.string (bs x)) := (World.cell?_of_block (J.be.block b (by rw [← unhide HH]; exact hb))).trans c1
      have hjt := hide (join_take q k x hx)
      have hb1 : (joinS (q.take k)).length ≤ 100000000 := Nat.le_trans (join_le _) (Nat.le_trans (wt_take q k) hsz)
      have hb2 : (joinS (q.take (k + 1))).length ≤ 100000000 := Nat.le_trans (join_le _) (Nat.le_trans (wt_take q _) hsz)
      have hb3 : (joinS (q.take k)).length + ((if 0 < k then ([47] : List UInt8) else []).length + x.length) ≤ 100000000 := by
        have := hb2; rw [unhide hjt] at this; simpa using this
      clear hx c1 hb hb2
      by_cases h0 : 0 < k
      · have k0 : (0 : Int) < (k : Int) := by omega
        rw [if_pos h0] at hb3
        replace hb1 := hide hb1
        replace hb3 := hide hb3
        replace J := hide J
        clear h0
        go_wp2_with fail
        refine ((unhide J).write [47] (by have := unhide hb1; simp; omega)).mono ?_
        rintro e w1 ⟨rfl, J3⟩
        replace J3 := hide J3
        go_wp2_with fail
        refine ((unhide J3).write x (by have := unhide hb3; simp at this ⊢; omega)).mono ?_
        rintro e w2 ⟨rfl, J4⟩
        replace J4 := hide J4
        go_wp2_with fail
        refine ⟨⟨k + 1, by omega, rfl, ?_⟩, by simp [intOf]; omega⟩
        rw [unhide hjt, if_pos (by omega)]
        simpa using unhide J4
      · obtain rfl : k = 0 := by omega
        replace hb1 := hide hb1
        replace hb3 := hide hb3
        replace J := hide J
        have c3 : wr.cell? ⟨b, off, none⟩ = some (.string (bs x)) := c2
        have j2 : ¬ ((0 : Int) < ((0 : Nat) : Int)) := by omega
        clear h0 c2
        go_wp2_with fail
        refine ((unhide J).write x (by have := unhide hb3; simp at this ⊢; omega)).mono ?_
        rintro e w2 ⟨rfl, J4⟩
        replace J4 := hide J4
        go_wp2_with fail
        refine ⟨⟨1, by omega, rfl, ?_⟩, by simp [intOf]; omega⟩
        rw [unhide hjt]
        simpa using unhide J4
    · obtain rfl : k = n := by omega
      have j1 : ¬ (k : Int) < (k : Int) := by omega
      have hq : q.take k = q := List.take_of_length_le (by rw [unhide HN]; exact Nat.le_refl _)
      rw [hq] at J
      clear hq
      have hb1 : (joinS q).length ≤ 100000000 := Nat.le_trans (join_le _) hsz
      obtain ⟨e0, e1, e2⟩ := J.cells
      replace J := hide J
      by_cases h0 : 0 < k
      · have k0 : (0 : Int) < (k : Int) := by omega
        have hne : q.isEmpty = false := by
          cases q with
          | nil => have := unhide HN; simp at this; omega
          | cons _ _ => rfl
        cases s with
        | true =>
          have hw : Hid (pw true true q = ([47] : List UInt8) ++ joinS q ++ [47]) := hide (by simp [pw, hne])
          replace hb1 := hide hb1
          clear h0 hne
          go_wp2_with fail
          refine ((unhide J).write [47] (by have := unhide hb1; simp; omega)).mono ?_
          rintro e w1 ⟨rfl, J3⟩
          replace J3 := hide J3
          go_wp2_with fail
          refine ((unhide J3).done).mono ?_
          rintro e w1 ⟨rfl, B3⟩
          replace B3 := hide B3
          go_wp2_with fail
          go_ret
          exact ⟨by rw [unhide hw]; rfl, unhide B3⟩
        | false =>
          have hw : Hid (pw true false q = ([47] : List UInt8) ++ joinS q) := hide (by simp [pw])
          clear h0 hne
          go_wp2_with fail
          refine ((unhide J).done).mono ?_
          rintro e w1 ⟨rfl, B3⟩
          replace B3 := hide B3
          go_wp2_with fail
          go_ret
          exact ⟨by rw [unhide hw]; rfl, unhide B3⟩
      · obtain rfl : k = 0 := by omega
        have hq0 : q = [] := List.length_eq_zero_iff.1 (unhide HN)
        have k0 : ¬ ((0 : Int) < ((0 : Nat) : Int)) := by omega
        have hw : Hid (pw true s q = ([47] : List UInt8) ++ joinS q) := hide (by simp [pw, hq0])
        clear h0 hq0
        cases s with
        | true =>
          go_wp2_with fail
          refine ((unhide J).done).mono ?_
          rintro e w1 ⟨rfl, B3⟩
          replace B3 := hide B3
          go_wp2_with fail
          go_ret
          exact ⟨by rw [unhide hw]; rfl, unhide B3⟩
        | false =>
          go_wp2_with fail
          refine ((unhide J).done).mono ?_
          rintro e w1 ⟨rfl, B3⟩
          replace B3 := hide B3
          go_wp2_with fail
          go_ret
          exact ⟨by rw [unhide hw]; rfl, unhide B3⟩
set_option maxRecDepth 100000 in
set_option maxHeartbeats 2000000 in
theorem wr_bare (s : Bool) (q : List (List UInt8)) (n : Nat) (hn : q.length = n) (hn2 : n ≤ 100000000) (a : Option Addr) (cap : Nat) (w : World) (hrow : RowO w a q) (hsz : wt q ≤ 100000000) :
    Calls Try.prog 20 #[.agg #[.bool false, .bool s, .slice a n cap]] w fun e w' => e = .returned (S (pw false s q)) ∧ Below w.heap.size w w' := by
  obtain ⟨V, hV, hsz0, g0, g1, hB⟩ := two0 w (.cells #[.bool false, .bool s, .slice a n cap] 24) (.cells #[.pointer none, .slice none 0 0] 54)
  replace hV := hide hV
  generalize hh : w.heap.size = h at *
  have J0 : WJ w V h false s (.slice a n cap) [] := ⟨hB, g0, .inl ⟨Nat.le_refl _, .slice none 0 0, g1, World.ownsRow_nil _ _ _ _, by simp [Value.ownBlock]⟩⟩
  replace J0 := hide J0
  have HROW := hide hrow
  have HH := hide hh
  have HN := hide hn
  clear hB g0 g1 hsz0 hrow hn
  go_enter Try.func20, Try.ntmps20
  have J1 := J0
  go_wp2_with fail
  rw [unhide hV]
  go_loopw [12] (fun i wr => ∃ k : Nat, k ≤ n ∧ i = .int .i64 k ∧ WJ w wr h false s (.slice a n cap) (([] : List UInt8) ++ joinS (q.take k))) (fun i _ => n - (intOf i).toNat)
  case atStart => exact ⟨0, by omega, rfl, by simpa [joinS] using unhide J1⟩
  case round =>
    obtain ⟨k, hk, rfl, J⟩ := hrel
    by_cases hlt : k < n
    · have j0 : (0 : Int) ≤ (k : Int) := by omega
      have j1 : (k : Int) < (n : Int) := by omega
      obtain ⟨x, hx⟩ : ∃ x, q[k]? = some x := ⟨_, List.getElem?_eq_getElem (by rw [unhide HN]; exact hlt)⟩
      obtain ⟨b, off, rfl, hb, c1⟩ := unhide HROW k x hx
      have c2 : wr.cell? ⟨b, off + k, none⟩ = some (.string (bs x)) := (World.cell?_of_block (J.be.block b (by rw [← unhide HH]; exact hb))).trans c1
      have hjt := hide (join_take q k x hx)
      have hb1 : (joinS (q.take k)).length ≤ 100000000 := Nat.le_trans (join_le _) (Nat.le_trans (wt_take q k) hsz)
      have hb2 : (joinS (q.take (k + 1))).length ≤ 100000000 := Nat.le_trans (join_le _) (Nat.le_trans (wt_take q _) hsz)
      have hb3 : (joinS (q.take k)).length + ((if 0 < k then ([47] : List UInt8) else []).length + x.length) ≤ 100000000 := by
        have := hb2; rw [unhide hjt] at this; simpa using this
      clear hx c1 hb hb2
      by_cases h0 : 0 < k
      · have k0 : (0 : Int) < (k : Int) := by omega
        rw [if_pos h0] at hb3
        replace hb1 := hide hb1
        replace hb3 := hide hb3
        replace J := hide J
        clear h0
        go_wp2_with fail
        refine ((unhide J).write [47] (by have := unhide hb1; simp; omega)).mono ?_
        rintro e w1 ⟨rfl, J3⟩
        replace J3 := hide J3
        go_wp2_with fail
        refine ((unhide J3).write x (by have := unhide hb3; simp at this ⊢; omega)).mono ?_
        rintro e w2 ⟨rfl, J4⟩
        replace J4 := hide J4
        go_wp2_with fail
        refine ⟨⟨k + 1, by omega, rfl, ?_⟩, by simp [intOf]; omega⟩
        rw [unhide hjt, if_pos (by omega)]
        simpa using unhide J4
      · obtain rfl : k = 0 := by omega
        replace hb1 := hide hb1
        replace hb3 := hide hb3
        replace J := hide J
        have c3 : wr.cell? ⟨b, off, none⟩ = some (.string (bs x)) := c2
        have j2 : ¬ ((0 : Int) < ((0 : Nat) : Int)) := by omega
        clear h0 c2
        go_wp2_with fail
        refine ((unhide J).write x (by have := unhide hb3; simp at this ⊢; omega)).mono ?_
        rintro e w2 ⟨rfl, J4⟩
        replace J4 := hide J4
        go_wp2_with fail
        refine ⟨⟨1, by omega, rfl, ?_⟩, by simp [intOf]; omega⟩
        rw [unhide hjt]
        simpa using unhide J4
    · obtain rfl : k = n := by omega
      have j1 : ¬ (k : Int) < (k : Int) := by omega
      have hq : q.take k = q := List.take_of_length_le (by rw [unhide HN]; exact Nat.le_refl _)
      rw [hq] at J
      clear hq
      have hb1 : (joinS q).length ≤ 100000000 := Nat.le_trans (join_le _) hsz
      obtain ⟨e0, e1, e2⟩ := J.cells
      replace J := hide J
      by_cases h0 : 0 < k
      · have k0 : (0 : Int) < (k : Int) := by omega
        have hne : q.isEmpty = false := by
          cases q with
          | nil => have := unhide HN; simp at this; omega
          | cons _ _ => rfl
        cases s with
        | true =>
          have hw : Hid (pw false true q = ([] : List UInt8) ++ joinS q ++ [47]) := hide (by simp [pw, hne])
          replace hb1 := hide hb1
          clear h0 hne
          go_wp2_with fail
          refine ((unhide J).write [47] (by have := unhide hb1; simp; omega)).mono ?_
          rintro e w1 ⟨rfl, J3⟩
          replace J3 := hide J3
          go_wp2_with fail
          refine ((unhide J3).done).mono ?_
          rintro e w1 ⟨rfl, B3⟩
          replace B3 := hide B3
          go_wp2_with fail
          go_ret
          exact ⟨by rw [unhide hw]; rfl, unhide B3⟩
        | false =>
          have hw : Hid (pw false false q = ([] : List UInt8) ++ joinS q) := hide (by simp [pw])
          clear h0 hne
          go_wp2_with fail
          refine ((unhide J).done).mono ?_
          rintro e w1 ⟨rfl, B3⟩
          replace B3 := hide B3
          go_wp2_with fail
          go_ret
          exact ⟨by rw [unhide hw]; rfl, unhide B3⟩
      · obtain rfl : k = 0 := by omega
        have hq0 : q = [] := List.length_eq_zero_iff.1 (unhide HN)
        have k0 : ¬ ((0 : Int) < ((0 : Nat) : Int)) := by omega
        have hw : Hid (pw false s q = ([] : List UInt8) ++ joinS q) := hide (by simp [pw, hq0])
        clear h0 hq0
        cases s with
        | true =>
          go_wp2_with fail
          refine ((unhide J).done).mono ?_
          rintro e w1 ⟨rfl, B3⟩
          replace B3 := hide B3
          go_wp2_with fail
          go_ret
          exact ⟨by rw [unhide hw]; rfl, unhide B3⟩
        | false =>
          go_wp2_with fail
          refine ((unhide J).done).mono ?_
          rintro e w1 ⟨rfl, B3⟩
          replace B3 := hide B3
          go_wp2_with fail
          go_ret
          exact ⟨by rw [unhide hw]; rfl, unhide B3⟩
theorem wr_any (r s : Bool) (q : List (List UInt8)) (n : Nat) (hn : q.length = n) (a : Option Addr) (cap : Nat) (w : World) (hrow : RowO w a q) (hsz : wt q ≤ 100000000) :
    Calls Try.prog 20 #[.agg #[.bool r, .bool s, .slice a n cap]] w fun e w' => e = .returned (S (pw r s q)) ∧ Below w.heap.size w w' := by
  have h2 : ∀ q : List (List UInt8), q.length ≤ wt q := by
    intro q
    induction q with
    | nil => simp
    | cons p r ih => simp [wt]; omega
  have := h2 q
  cases r
  · exact wr_bare s q n hn (by omega) a cap w hrow hsz
  · exact wr_root s q n hn (by omega) a cap w hrow hsz
end Go.Proofs.Ytnhddendkolfeaa
