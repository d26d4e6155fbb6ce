/-
  The contract of Write.
-/
import Derived.Test.YtlngeaacjbdmhaaGreatMr25
import Derived.Test.YtlngeaacjbdmhaaGreatMr15
import Derived.Test.YtlngeaacjbdmhaaGreatMr09
import Derived.Test.YtlngeaacjbdmhaaGreatMr16
import Derived.Deep.CutRange
import Derived.Test.YtlngeaacjbdmhaaGreatMr24
namespace Go.Proofs.YtlngeaacjbdmhaaGreat.Nm
open Go.RowKit
attribute [local go_sem ↓] Go.wp_at_zero Go.wp_at_succ
/-- What lies while Write goes on: the path, and the builder behind it. -/
structure WJ (w W : World) (h : Nat) (r s : Bool) (v : Value) (acc : List UInt8) : Prop where
  be : Below h w W
  bx : W.heap[h]? = some (.cells #[.bool r, .bool s, v] 234)
  bd : Lib.IsBuilder 335 5 (h + 1) (h + 1) (Lib.byteCells acc) W
theorem WJ.sz {w W : World} {h : Nat} {r s : Bool} {v : Value} {acc : List UInt8} (J : WJ w W h r s v acc) : h + 1 < W.heap.size := by
  rcases J.bd with hb | hb <;> exact hb.lt
theorem WJ.write {w W : World} {h : Nat} {r s : Bool} {v : Value} {acc : List UInt8} (J : WJ w W h r s v acc) (l : List UInt8) (hl : acc.length + l.length ≤ 1000000000) :
    Calls Tryz.prog 313 #[.pointer (some ⟨h + 1, 0, none⟩), S l] W fun e w' => e = .returned (.tuple #[.int .i64 l.length, .nilIface]) ∧ WJ w w' h r s v (acc ++ l) := by
  have := J.sz
  refine (write_any (h + 1) (h + 1) acc l W J.bd (by omega) (by omega)).mono ?_
  rintro e w' ⟨rfl, h1, h2⟩
  exact ⟨rfl, J.be.trans (h2.mono (by omega)), (h2.block h (by omega)).trans J.bx, h1⟩
theorem WJ.cells {w W : World} {h : Nat} {r s : Bool} {v : Value} {acc : List UInt8} (J : WJ w W h r s v acc) : W.cell? ⟨h, 0, none⟩ = some (.bool r) ∧ W.cell? ⟨h, 1, none⟩ = some (.bool s) ∧ W.cell? ⟨h, 2, none⟩ = some v := by
  refine ⟨?_, ?_, ?_⟩ <;> rw [cell_of J.bx] <;> rfl
theorem WJ.done {w W : World} {h : Nat} {r s : Bool} {v : Value} {acc : List UInt8} (J : WJ w W h r s v acc) :
    Calls Tryz.prog 314 #[.pointer (some ⟨h + 1, 0, none⟩)] W fun e w' => e = .returned (S acc) ∧ Below h w w' := by
  have := J.sz
  refine (Tryz.Builder_String_any (h + 1) (h + 1) acc W J.bd (by omega)).mono ?_
  rintro e w' ⟨rfl, h2⟩
  exact ⟨rfl, J.be.trans (h2.mono (by omega))⟩
theorem join_take (q : List (List UInt8)) (i : Nat) (x : List UInt8) (h : q[i]? = some x) : joinS (q.take (i + 1)) = joinS (q.take i) ++ ((if 0 < i then [47] else []) ++ x) := by
  induction q generalizing i with
  | nil => simp at h
  | cons p r ih =>
    cases i with
    | zero => simp at h; subst h; simp [joinS]
    | succ j =>
      have h1 : r[j]? = some x := by simpa using h
      have h2 := ih j h1
      rw [List.take_succ_cons, List.take_succ_cons]
      cases r with
      | nil => simp at h1
      | cons y t =>
        cases j with
        | zero =>
          simp at h1; subst h1
          simp [joinS]
        | succ k =>
          rw [List.take_succ_cons] at h2 ⊢
          rw [List.take_succ_cons] at h2 ⊢
          rw [joinS_cons, joinS_cons, h2]
          simp
theorem wt_take (q : List (List UInt8)) (i : Nat) : wt (q.take i) ≤ wt q := by
  have h := wt_app (q.take i) (q.drop i)
  rw [List.take_append_drop] at h
  omega
set_option maxRecDepth 100000 in
set_option maxHeartbeats 2000000 in
theorem wr_root (s : Bool) (q : List (List UInt8)) (n : Nat) (hn : q.length = n) (hn2 : n ≤ 100000000) (a : Option Addr) (cap : Nat) (w : World) (hrow : RowO w a q) (hsz : wt q ≤ 100000000) :
    Calls Tryz.prog 291 #[.agg #[.bool true, .bool s, .slice a n cap]] w fun e w' => e = .returned (S (pw true s q)) ∧ Below w.heap.size w w' := by
  obtain ⟨V, hV, hsz0, g0, g1, hB⟩ := two0 w (.cells #[.bool true, .bool s, .slice a n cap] 234) (.cells #[.pointer none, .slice none 0 0] 335)
  replace hV := hide hV
  generalize hh : w.heap.size = h at *
  have J0 : WJ w V h true s (.slice a n cap) [] := ⟨hB, g0, .inl ⟨Nat.le_refl _, .slice none 0 0, g1, World.ownsRow_nil _ _ _ _, by simp [Value.ownBlock]⟩⟩
  replace J0 := hide J0
  have HROW := hide hrow
  have HH := hide hh
  have HN := hide hn
  clear hB g0 g1 hsz0 hrow hn
  go_enter Tryz.func291, Tryz.ntmps291
  go_wp2_with fail
  rw [unhide hV]
  refine ((unhide J0).write [47] (by simp)).mono ?_
  rintro e w1 ⟨rfl, J1⟩
  replace J1 := hide J1
  clear J0
  obtain ⟨e0, e1, e2⟩ := (unhide J1).cells
  go_wp2_with fail
  clear e0 e1 e2
  go_loopw [12] (fun i wr => ∃ k : Nat, k ≤ n ∧ i = .int .i64 k ∧ WJ w wr h true s (.slice a n cap) (([47] : List UInt8) ++ joinS (q.take k))) (fun i _ => n - (intOf i).toNat)
  case atStart => exact ⟨0, by omega, rfl, by simpa [joinS] using unhide J1⟩
  case round =>
    obtain ⟨k, hk, rfl, J⟩ := hrel
    by_cases hlt : k < n
    · have j0 : (0 : Int) ≤ (k : Int) := by omega
      have j1 : (k : Int) < (n : Int) := by omega
      obtain ⟨x, hx⟩ : ∃ x, q[k]? = some x := ⟨_, List.getElem?_eq_getElem (by rw [unhide HN]; exact hlt)⟩
      obtain ⟨b, off, rfl, hb, c1⟩ := unhide HROW k x hx
      have c2 : wr.cell? ⟨b, off + k, none⟩ = some (.string (bs x)) := (World.cell?_of_block (J.be.block b (by rw [← unhide HH]; exact hb))).trans c1
      have hjt := hide (join_take q k x hx)
      have hb1 : (joinS (q.take k)).length ≤ 100000000 := Nat.le_trans (join_le _) (Nat.le_trans (wt_take q k) hsz)
      have hb2 : (joinS (q.take (k + 1))).length ≤ 100000000 := Nat.le_trans (join_le _) (Nat.le_trans (wt_take q _) hsz)
      have hb3 : (joinS (q.take k)).length + ((if 0 < k then ([47] : List UInt8) else []).length + x.length) ≤ 100000000 := by
        have := hb2; rw [unhide hjt] at this; simpa using this
      clear hx c1 hb hb2
      by_cases h0 : 0 < k
      · have k0 : (0 : Int) < (k : Int) := by omega
        rw [if_pos h0] at hb3
        replace hb1 := hide hb1
        replace hb3 := hide hb3
        replace J := hide J
        clear h0
        go_wp2_with fail
        refine ((unhide J).write [47] (by have := unhide hb1; simp; omega)).mono ?_
        rintro e w1 ⟨rfl, J3⟩
        replace J3 := hide J3
        go_wp2_with fail
        refine ((unhide J3).write x (by have := unhide hb3; simp at this ⊢; omega)).mono ?_
        rintro e w2 ⟨rfl, J4⟩
        replace J4 := hide J4
        go_wp2_with fail
        refine ⟨⟨k + 1, by omega, rfl, ?_⟩, by simp [intOf]; omega⟩
        rw [unhide hjt, if_pos (by omega)]
        simpa using unhide J4
      · obtain rfl : k = 0 := by omega
        replace hb1 := hide hb1
        replace hb3 := hide hb3
        replace J := hide J
        have c3 : wr.cell? ⟨b, off, none⟩ = some (.string (bs x)) := c2
        have j2 : ¬ ((0 : Int) < ((0 : Nat) : Int)) := by omega
        clear h0 c2
        go_wp2_with fail
        refine ((unhide J).write x (by have := unhide hb3; simp at this ⊢; omega)).mono ?_
        rintro e w2 ⟨rfl, J4⟩
        replace J4 := hide J4
        go_wp2_with fail
        refine ⟨⟨1, by omega, rfl, ?_⟩, by simp [intOf]; omega⟩
        rw [unhide hjt]
        simpa using unhide J4
    · obtain rfl : k = n := by omega
      have j1 : ¬ (k : Int) < (k : Int) := by omega
      have hq : q.take k = q := List.take_of_length_le (by rw [unhide HN]; exact Nat.le_refl _)
      rw [hq] at J
      clear hq
      have hb1 : (joinS q).length ≤ 100000000 := Nat.le_trans (join_le _) hsz
      obtain ⟨e0, e1, e2⟩ := J.cells
      replace J := hide J
      by_cases h0 : 0 < k
      · have k0 : (0 : Int) < (k : Int) := by omega
        have hne : q.isEmpty = false := by
          cases q with
          | nil => have := unhide HN; simp at this; omega
          | cons _ _ => rfl
        cases s with
        | true =>
          have hw : Hid (pw true true q = ([47] : List UInt8) ++ joinS q ++ [47]) := hide (by simp [pw, hne])
          replace hb1 := hide hb1
          clear h0 hne
          go_wp2_with fail
          refine ((unhide J).write [47] (by have := unhide hb1; simp; omega)).mono ?_
          rintro e w1 ⟨rfl, J3⟩
          replace J3 := hide J3
          go_wp2_with fail
          refine ((unhide J3).done).mono ?_
          rintro e w1 ⟨rfl, B3⟩
          replace B3 := hide B3
          go_wp2_with fail
          go_ret
          exact ⟨by rw [unhide hw]; rfl, unhide B3⟩
        | false =>
          have hw : Hid (pw true false q = ([47] : List UInt8) ++ joinS q) := hide (by simp [pw])
          clear h0 hne
          go_wp2_with fail
          refine ((unhide J).done).mono ?_
          rintro e w1 ⟨rfl, B3⟩
          replace B3 := hide B3
          go_wp2_with fail
          go_ret
          exact ⟨by rw [unhide hw]; rfl, unhide B3⟩
      · obtain rfl : k = 0 := by omega
        have hq0 : q = [] := List.length_eq_zero_iff.1 (unhide HN)
        have k0 : ¬ ((0 : Int) < ((0 : Nat) : Int)) := by omega
        have hw : Hid (pw true s q = ([47] : List UInt8) ++ joinS q) := hide (by simp [pw, hq0])
        clear h0 hq0
        cases s with
        | true =>
          go_wp2_with fail
          refine ((unhide J).done).mono ?_
          rintro e w1 ⟨rfl, B3⟩
          replace B3 := hide B3
          go_wp2_with fail
          go_ret
          exact ⟨by rw [unhide hw]; rfl, unhide B3⟩
        | false =>
          go_wp2_with fail
          refine ((unhide J).done).mono ?_
          rintro e w1 ⟨rfl, B3⟩
          replace B3 := hide B3
          go_wp2_with fail
          go_ret
          exact ⟨by rw [unhide hw]; rfl, unhide B3⟩
set_option maxRecDepth 100000 in
set_option maxHeartbeats 2000000 in
theorem wr_bare (s : Bool) (q : List (List UInt8)) (n : Nat) (hn : q.length = n) (hn2 : n ≤ 100000000) (a : Option Addr) (cap : Nat) (w : World) (hrow : RowO w a q) (hsz : wt q ≤ 100000000) :
    Calls Tryz.prog 291 #[.agg #[.bool false, .bool s, .slice a n cap]] w fun e w' => e = .returned (S (pw false s q)) ∧ Below w.heap.size w w' := by
  obtain ⟨V, hV, hsz0, g0, g1, hB⟩ := two0 w (.cells #[.bool false, .bool s, .slice a n cap] 234) (.cells #[.pointer none, .slice none 0 0] 335)
  replace hV := hide hV
  generalize hh : w.heap.size = h at *
  have J0 : WJ w V h false s (.slice a n cap) [] := ⟨hB, g0, .inl ⟨Nat.le_refl _, .slice none 0 0, g1, World.ownsRow_nil _ _ _ _, by simp [Value.ownBlock]⟩⟩
  replace J0 := hide J0
  have HROW := hide hrow
  have HH := hide hh
  have HN := hide hn
  clear hB g0 g1 hsz0 hrow hn
  go_enter Tryz.func291, Tryz.ntmps291
  have J1 := J0
  go_wp2_with fail
  rw [unhide hV]
  go_loopw [12] (fun i wr => ∃ k : Nat, k ≤ n ∧ i = .int .i64 k ∧ WJ w wr h false s (.slice a n cap) (([] : List UInt8) ++ joinS (q.take k))) (fun i _ => n - (intOf i).toNat)
  case atStart => exact ⟨0, by omega, rfl, by simpa [joinS] using unhide J1⟩
  case round =>
    obtain ⟨k, hk, rfl, J⟩ := hrel
    by_cases hlt : k < n
    · have j0 : (0 : Int) ≤ (k : Int) := by omega
      have j1 : (k : Int) < (n : Int) := by omega
      obtain ⟨x, hx⟩ : ∃ x, q[k]? = some x := ⟨_, List.getElem?_eq_getElem (by rw [unhide HN]; exact hlt)⟩
      obtain ⟨b, off, rfl, hb, c1⟩ := unhide HROW k x hx
      have c2 : wr.cell? ⟨b, off + k, none⟩ = some (.string (bs x)) := (World.cell?_of_block (J.be.block b (by rw [← unhide HH]; exact hb))).trans c1
      have hjt := hide (join_take q k x hx)
      have hb1 : (joinS (q.take k)).length ≤ 100000000 := Nat.le_trans (join_le _) (Nat.le_trans (wt_take q k) hsz)
      have hb2 : (joinS (q.take (k + 1))).length ≤ 100000000 := Nat.le_trans (join_le _) (Nat.le_trans (wt_take q _) hsz)
      have hb3 : (joinS (q.take k)).length + ((if 0 < k then ([47] : List UInt8) else []).length + x.length) ≤ 100000000 := by
        have := hb2; rw [unhide hjt] at this; simpa using this
      clear hx c1 hb hb2
      by_cases h0 : 0 < k
      · have k0 : (0 : Int) < (k : Int) := by omega
        rw [if_pos h0] at hb3
        replace hb1 := hide hb1
        replace hb3 := hide hb3
        replace J := hide J
        clear h0
        go_wp2_with fail
        refine ((unhide J).write [47] (by have := unhide hb1; simp; omega)).mono ?_
        rintro e w1 ⟨rfl, J3⟩
        replace J3 := hide J3
        go_wp2_with fail
        refine ((unhide J3).write x (by have := unhide hb3; simp at this ⊢; omega)).mono ?_
        rintro e w2 ⟨rfl, J4⟩
        replace J4 := hide J4
        go_wp2_with fail
        refine ⟨⟨k + 1, by omega, rfl, ?_⟩, by simp [intOf]; omega⟩
        rw [unhide hjt, if_pos (by omega)]
        simpa using unhide J4
      · obtain rfl : k = 0 := by omega
        replace hb1 := hide hb1
        replace hb3 := hide hb3
        replace J := hide J
        have c3 : wr.cell? ⟨b, off, none⟩ = some (.string (bs x)) := c2
        have j2 : ¬ ((0 : Int) < ((0 : Nat) : Int)) := by omega
        clear h0 c2
        go_wp2_with fail
        refine ((unhide J).write x (by have := unhide hb3; simp at this ⊢; omega)).mono ?_
        rintro e w2 ⟨rfl, J4⟩
        replace J4 := hide J4
        go_wp2_with fail
        refine ⟨⟨1, by omega, rfl, ?_⟩, by simp [intOf]; omega⟩
        rw [unhide hjt]
        simpa using unhide J4
    · obtain rfl : k = n := by omega
      have j1 : ¬ (k : Int) < (k : Int) := by omega
      have hq : q.take k = q := List.take_of_length_le (by rw [unhide HN]; exact Nat.le_refl _)
      rw [hq] at J
      clear hq
      have hb1 : (joinS q).length ≤ 100000000 := Nat.le_trans (join_le _) hsz
      obtain ⟨e0, e1, e2⟩ := J.cells
      replace J := hide J
      by_cases h0 : 0 < k
      · have k0 : (0 : Int) < (k : Int) := by omega
        have hne : q.isEmpty = false := by
          cases q with
          | nil => have := unhide HN; simp at this; omega
          | cons _ _ => rfl
        cases s with
        | true =>
          have hw : Hid (pw false true q = ([] : List UInt8) ++ joinS q ++ [47]) := hide (by simp [pw, hne])
          replace hb1 := hide hb1
          clear h0 hne
          go_wp2_with fail
          refine ((unhide J).write [47] (by have := unhide hb1; simp; omega)).mono ?_
          rintro e w1 ⟨rfl, J3⟩
          replace J3 := hide J3
          go_wp2_with fail
          refine ((unhide J3).done).mono ?_
          rintro e w1 ⟨rfl, B3⟩
          replace B3 := hide B3
          go_wp2_with fail
          go_ret
          exact ⟨by rw [unhide hw]; rfl, unhide B3⟩
        | false =>
          have hw : Hid (pw false false q = ([] : List UInt8) ++ joinS q) := hide (by simp [pw])
          clear h0 hne
          go_wp2_with fail
          refine ((unhide J).done).mono ?_
          rintro e w1 ⟨rfl, B3⟩
          replace B3 := hide B3
          go_wp2_with fail
          go_ret
          exact ⟨by rw [unhide hw]; rfl, unhide B3⟩
      · obtain rfl : k = 0 := by omega
        have hq0 : q = [] := List.length_eq_zero_iff.1 (unhide HN)
        have k0 : ¬ ((0 : Int) < ((0 : Nat) : Int)) := by omega
        have hw : Hid (pw false s q = ([] : List UInt8) ++ joinS q) := hide (by simp [pw, hq0])
        clear h0 hq0
        cases s with
        | true =>
          go_wp2_with fail
          refine ((unhide J).done).mono ?_
          rintro e w1 ⟨rfl, B3⟩
          replace B3 := hide B3
          go_wp2_with fail
          go_ret
          exact ⟨by rw [unhide hw]; rfl, unhide B3⟩
        | false =>
          go_wp2_with fail
          refine ((unhide J).done).mono ?_
          rintro e w1 ⟨rfl, B3⟩
          replace B3 := hide B3
          go_wp2_with fail
          go_ret
          exact ⟨by rw [unhide hw]; rfl, unhide B3⟩
theorem wr_any (r s : Bool) (q : List (List UInt8)) (n : Nat) (hn : q.length = n) (a : Option Addr) (cap : Nat) (w : World) (hrow : RowO w a q) (hsz : wt q ≤ 100000000) :
    Calls Tryz.prog 291 #[.agg #[.bool r, .bool s, .slice a n cap]] w fun e w' => e = .returned (S (pw r s q)) ∧ Below w.heap.size w w' := by
  have h2 : ∀ q : List (List UInt8), q.length ≤ wt q := by
    intro q
    induction q with
    | nil => simp
    | cons p r ih => simp [wt]; omega
  have := h2 q
  cases r
  · exact wr_bare s q n hn (by omega) a cap w hrow hsz
  · exact wr_root s q n hn (by omega) a cap w hrow hsz
end Go.Proofs.YtlngeaacjbdmhaaGreat.Nm

namespace Go.Proofs.YtlngeaacjbdmhaaGreat.Kr
open Go.RowKit
abbrev I (n : Int) : Value := .int .i64 n
abbrev Cr (u g : Int) : Value := .agg #[I u, I g]
abbrev St (n k m u g l z : Int) : Value := .agg #[I n, I k, I m, I u, I g, I l, I z]
theorem two (w : World) (a b : Obj) : Below w.heap.size w ((w.alloc a).alloc b) := ((Below.refl _ _).alloc (Nat.le_refl _) _).alloc (by simp) _
theorem three (w : World) (a b c : Obj) : Below w.heap.size w (((w.alloc a).alloc b).alloc c) := (two w a b).alloc (by simp; omega) _
theorem Below.step {B : Nat} {u v w : World} (h : Below B u v) (g : Below v.heap.size v w) (hb : B ≤ u.heap.size) : Below B u w := h.trans (g.mono (Nat.le_trans hb h.size))
theorem hide {p : Prop} (h : p) : Hid p := h
theorem unhide {p : Prop} (h : Hid p) : p := h
/-- What a call has laid behind the world in which it began: these, and whatever else. -/
structure Laid (w v : World) (os : List Obj) : Prop where
  lies : ∀ (i : Nat) (o : Obj), os[i]? = some o → v.heap[w.heap.size + i]? = some o
  below : Below w.heap.size w v
  room : w.heap.size + os.length ≤ v.heap.size
theorem Laid.nil (w : World) : Laid w w [] := ⟨fun i o h => by simp at h, Below.refl _ _, by simp⟩
theorem Laid.step {w v v' : World} {os : List Obj} (h : Laid w v os) (g : Below v.heap.size v v') : Laid w v' os :=
  ⟨fun i o hi => (g.block _ (by have := (List.getElem?_eq_some_iff.1 hi).1; have := h.room; omega)).trans (h.lies i o hi), Below.step h.below g (Nat.le_refl _), Nat.le_trans h.room g.size⟩
theorem Laid.put {w v : World} {os : List Obj} (h : Laid w v os) (hs : v.heap.size = w.heap.size + os.length) (o : Obj) : Laid w (v.alloc o) (os ++ [o]) := by
  refine ⟨fun i x hi => ?_, h.below.alloc (by omega) _, by simp; omega⟩
  by_cases hlt : i < os.length
  · rw [List.getElem?_append_left hlt] at hi
    rw [Below.heap_alloc _ _ _ (by omega)]
    exact h.lies i x hi
  · have h1 := (List.getElem?_eq_some_iff.1 hi).1
    simp at h1
    have : i = os.length := by omega
    subst this
    simp at hi
    subst hi
    rw [← hs]
    exact heap_alloc_new v o
theorem cell_of {W : World} {b : Nat} {cs : Array Value} {t : TypeId} {f : Nat × Nat} (h : W.heap[b]? = some (.cells cs t f)) (i : Nat) : W.cell? ⟨b, i, none⟩ = cs[i]? := by
  simp [World.cell?, h]
theorem frozen_of {W : World} {b : Nat} {cs : Array Value} {t : TypeId} (h : W.heap[b]? = some (.cells cs t)) (i : Nat) : W.frozen? ⟨b, i, none⟩ = false := by
  simp [World.frozen?, h]
theorem heap_set {W : World} {b : Nat} {cs : Array Value} {t : TypeId} {f : Nat × Nat} (h : W.heap[b]? = some (.cells cs t f)) (i : Nat) (v : Value) :
    (W.setCell ⟨b, i, none⟩ v).heap[b]? = some (.cells (cs.setIfInBounds i v) t f) := by
  obtain ⟨hl, he⟩ := Array.getElem?_eq_some_iff.1 h
  simp [World.setCell, Array.getElem?_modify, h]
abbrev CrO (u g : Int) : Obj := .cells #[I u, I g] 57
abbrev StO (n k m u g l z : Int) : Obj := .cells #[I n, I k, I m, I u, I g, I l, I z] 33
theorem Laid.st {w v : World} {os : List Obj} (h : Laid w v os) (i : Nat) {b : Nat} (hb : b = w.heap.size + i) {n k m u g l z : Int} (hi : os[i]? = some (StO n k m u g l z)) :
    v.cell? ⟨b, 0, none⟩ = some (I n) ∧ v.cell? ⟨b, 1, none⟩ = some (I k) ∧ v.cell? ⟨b, 2, none⟩ = some (I m) ∧ v.cell? ⟨b, 3, none⟩ = some (I u) ∧ v.cell? ⟨b, 4, none⟩ = some (I g) ∧ v.cell? ⟨b, 5, none⟩ = some (I l) ∧ v.cell? ⟨b, 6, none⟩ = some (I z) ∧ ∀ j, v.frozen? ⟨b, j, none⟩ = false := by
  have := h.lies i _ hi
  rw [← hb] at this
  refine ⟨?_, ?_, ?_, ?_, ?_, ?_, ?_, frozen_of this⟩ <;> rw [cell_of this] <;> rfl
/-- A mode that is set. -/
theorem Laid.mode {w v : World} {os : List Obj} (h : Laid w v os) (i : Nat) {b : Nat} (hb : b = w.heap.size + i) {n k m u g l z : Int} (hi : os[i]? = some (StO n k m u g l z)) (x : Int) :
    Laid w (v.setCell ⟨b, 2, none⟩ (I x)) (os.set i (StO n k x u g l z)) := by
  have h1 := h.lies i _ hi
  rw [← hb] at h1
  have hr := h.room
  have hil := (List.getElem?_eq_some_iff.1 hi).1
  refine ⟨fun j o hj => ?_, ?_, by simpa using h.room⟩
  · by_cases e : j = i
    · subst e
      rw [List.getElem?_set_self hil] at hj
      cases hj
      rw [← hb, heap_set h1]
      rfl
    · rw [List.getElem?_set_ne (by omega)] at hj
      rw [Below.heap_setCell _ _ _ _ (by simp; omega)]
      exact h.lies j o hj
  · exact h.below.setCell (by simp; omega) _
set_option maxRecDepth 100000 in
theorem bits_any (cu cg n k m u g l z : Int) (w : World) : Calls Tryz.prog 296 #[Cr cu cg, St n k m u g l z] w fun e w' => e = .returned (I (cnt cu cg m u g)) ∧ Below w.heap.size w w' := by
  go_enter Tryz.func296, Tryz.ntmps296
  go_wp2_with fail
  all_goals go_ret
  · rename_i h0
    exact ⟨by simp_all [cnt], two _ _ _⟩
  · rename_i h0 h1
    exact ⟨by simp_all [cnt], two _ _ _⟩
  · rename_i h0 h1 h2
    exact ⟨by simp_all [cnt], two _ _ _⟩
  · rename_i h0 h1 h2
    exact ⟨by simp_all [cnt], two _ _ _⟩
set_option maxRecDepth 100000 in
theorem may_any (cu cg n k m u g l z wt : Int) (w : World) : Calls Tryz.prog 257 #[Cr cu cg, St n k m u g l z, I wt] w fun e w' => e = .returned (.bool (may cu cg m u g wt)) ∧ Below w.heap.size w w' := by
  go_enter Tryz.func257, Tryz.ntmps257
  go_wp2_with fail
  refine (bits_any _ _ _ _ _ _ _ _ _ _).mono ?_
  rintro e w1 ⟨rfl, B1⟩
  go_wp2_with fail
  go_ret
  refine ⟨?_, Below.step (two _ _ _) B1 (Nat.le_refl _)⟩
  show Ending.returned (Value.bool _) = _
  rw [and7, andNot_zero _ (lo_lt _)]
  rfl
theorem masked_any (m : Int) (w : World) : Calls Tryz.prog 270 #[I m] w fun e w' => e = .returned (I (bits .and .i64 m 4095)) ∧ w' = w := by
  go_enter Tryz.func270, Tryz.ntmps270
  go_wp2_with fail
  go_ret
  exact ⟨rfl, rfl⟩
end Go.Proofs.YtlngeaacjbdmhaaGreat.Kr

namespace Go.Proofs.YtlngeaacjbdmhaaGreat.Wl
open Go.RowKit
/-- The tree and the mounts that are walked in, in their blocks. -/
structure Wd (lo N mb : Nat) (W : World) (t m : Nat) (E : En) : Prop where
  tp : Tp lo N W t E.T
  wk : Wk 880 E.T
  ls : Mt.Ls mb W m E.rt E.md E.es
  el : Mt.Eld E.md E.es
  le : E.es.length ≤ 1000
  wf : ∀ p ∈ E.es, (kl p.top).wf = true ∧ (kl p.an).wf = true
def wkC (E : En) (t m : Nat) (am an : Int) (s : Nat) : Array Value := #[P0 t, P0 m, I E.cu, I E.cg, I E.rm, I E.rn, I am, I an, I (s : Int)]
/-- The walker: where it is, and how many parts it has looked at. -/
def Wn (W : World) (b t m : Nat) (E : En) (am an : Int) (s : Nat) : Prop := W.heap[b]? = some (.cells (wkC E t m am an s) 238)
section
variable {lo N mb : Nat} {W W' : World} {t m b : Nat} {E : En} {am an : Int} {s : Nat}
theorem Wd.below (h : Wd lo N mb W t m E) (g : Below W.heap.size W W') : Wd lo N mb W' t m E := ⟨h.tp.below g, h.wk, h.ls.below g, h.el, h.le, h.wf⟩
theorem Wn.below (h : Wn W b t m E am an s) (g : Below W.heap.size W W') : Wn W' b t m E am an s := (g.block b (lt_of_heap h)).trans h
theorem Wn.lt (h : Wn W b t m E am an s) : b < W.heap.size := lt_of_heap h
theorem Wn.cells (h : Wn W b t m E am an s) : W.cell? ⟨b, 0, none⟩ = some (P0 t) ∧ W.cell? ⟨b, 1, none⟩ = some (P0 m) ∧ W.cell? ⟨b, 2, none⟩ = some (I E.cu) ∧ W.cell? ⟨b, 3, none⟩ = some (I E.cg) ∧ W.cell? ⟨b, 4, none⟩ = some (I E.rm) ∧ W.cell? ⟨b, 5, none⟩ = some (I E.rn) ∧ W.cell? ⟨b, 6, none⟩ = some (I am) ∧ W.cell? ⟨b, 7, none⟩ = some (I an) ∧ W.cell? ⟨b, 8, none⟩ = some (I (s : Int)) ∧ ∀ i, W.frozen? ⟨b, i, none⟩ = false := by
  refine ⟨?_, ?_, ?_, ?_, ?_, ?_, ?_, ?_, ?_, frozen_of h⟩ <;> (rw [cell_of h]; rfl)
theorem stat_shape (T : Tr) (n : Int) : ∃ a mo u g l z, T.stat n = .agg #[I a, I (T.kindOf n), I mo, I u, I g, I l, I z] ∧ ∀ x, T.nd n = some x → mo = x.mode ∧ u = x.uid ∧ g = x.gid := by
  unfold Tr.stat Tr.kindOf
  cases h : T.nd n with
  | none => exact ⟨0, 0, 0, 0, 0, 0, rfl, fun x hx => by cases hx⟩
  | some x => exact ⟨_, _, _, _, _, _, rfl, fun y hy => by cases hy; exact ⟨rfl, rfl, rfl⟩⟩
/-- Stat, wherever new blocks lie besides. -/
theorem stat_W (h : Wd lo N mb W t m E) {n : Int} (hn : (kl n).wf = true) {v : Value} {f : Bool} (hv : E.T.stat n = v) (hf : (E.T.nd n).isSome = f) (V : World) (g : Below W.heap.size W V) :
    Calls Tryz.prog 37 #[P0 t, I n] V fun e w' => e = .returned (.tuple #[v, .bool f]) ∧ Hid (Below V.heap.size V w') := by
  obtain ⟨q, p, nb, ev, h1⟩ := h.tp
  rw [← hv, ← hf]
  exact stat_any (h1.below g) h.wk (by omega) hn
theorem cell_be {a : Addr} {v : Value} (h : W.cell? a = some v) (g : Below W.heap.size W W') : W'.cell? a = some v := by
  have hx : a.block < W.heap.size := by
    rcases Nat.lt_or_ge a.block W.heap.size with h1 | h1
    · exact h1
    · simp [World.cell?, Array.getElem?_eq_none h1] at h
  rw [← h]
  exact World.cell?_of_block (g.block a.block hx)
def zst : Obj := .cells #[I 0, I 0, I 0, I 0, I 0, I 0, I 0] 33
theorem below7 {B : Nat} {u X : World} (h : Below B u X) {b : Nat} (hb : B ≤ b) (v0 v1 v2 v3 v4 v5 v6 : Value) : Below B u (((((((X.setCell ⟨b, 0, none⟩ v0).setCell ⟨b, 1, none⟩ v1).setCell ⟨b, 2, none⟩ v2).setCell ⟨b, 3, none⟩ v3).setCell ⟨b, 4, none⟩ v4).setCell ⟨b, 5, none⟩ v5).setCell ⟨b, 6, none⟩ v6) :=
  ((((((h.setCell (p := ⟨b, 0, none⟩) hb _).setCell (p := ⟨b, 1, none⟩) hb _).setCell (p := ⟨b, 2, none⟩) hb _).setCell (p := ⟨b, 3, none⟩) hb _).setCell (p := ⟨b, 4, none⟩) hb _).setCell (p := ⟨b, 5, none⟩) hb _).setCell (p := ⟨b, 6, none⟩) hb _
theorem set7 {X : World} {b : Nat} {t : TypeId} {a0 a1 a2 a3 a4 a5 a6 : Value} (h : X.heap[b]? = some (.cells #[a0, a1, a2, a3, a4, a5, a6] t)) (v0 v1 v2 v3 v4 v5 v6 : Value) :
    ∃ Y, ((((((X.setCell ⟨b, 0, none⟩ v0).setCell ⟨b, 1, none⟩ v1).setCell ⟨b, 2, none⟩ v2).setCell ⟨b, 3, none⟩ v3).setCell ⟨b, 4, none⟩ v4).setCell ⟨b, 5, none⟩ v5).setCell ⟨b, 6, none⟩ v6 = Y ∧ Y.heap[b]? = some (.cells #[v0, v1, v2, v3, v4, v5, v6] t) ∧ ∀ B u, Below B u X → B ≤ b → Below B u Y :=
  ⟨_, rfl, by rw [heap_set (heap_set (heap_set (heap_set (heap_set (heap_set (heap_set h 0 _) 1 _) 2 _) 3 _) 4 _) 5 _) 6 _]; rfl, fun _ _ h1 h2 => below7 h1 h2 _ _ _ _ _ _ _⟩
/-- Stat, in a region that draws: the cells for its answer lie ahead of the call. -/
theorem stat_ahead (h : Wd lo N mb W t m E) {n : Int} (hn : (kl n).wf = true) {v : Value} {f : Bool} (hv : E.T.stat n = v) (hf : (E.T.nd n).isSome = f) (V : World) (g : Below W.heap.size W V) :
    Calls Tryz.prog 37 #[P0 t, I n] (V.alloc zst).drew fun e w' => e = .returned (.tuple #[v, .bool f]) ∧ Hid (Below V.heap.size V w') ∧ w'.heap[V.heap.size]? = some zst := by
  have g1 : Below V.heap.size V (V.alloc zst).drew := below_drew ((Below.refl _ V).alloc (Nat.le_refl _) _)
  refine (stat_W h hn hv hf (V.alloc zst).drew (g.trans (g1.mono g.size))).mono ?_
  rintro e w' ⟨rfl, h2⟩
  refine ⟨rfl, g1.trans ((unhide h2).mono (by show V.heap.size ≤ (V.alloc zst).heap.size; simp)), ((unhide h2).block _ (by show V.heap.size < (V.alloc zst).heap.size; simp)).trans ?_⟩
  exact heap_alloc_new V zst
/-- And behind it. -/
theorem stat_behind (h : Wd lo N mb W t m E) {n : Int} (hn : (kl n).wf = true) {v : Value} {f : Bool} (hv : E.T.stat n = v) (hf : (E.T.nd n).isSome = f) (V : World) (g : Below W.heap.size W V) :
    Calls Tryz.prog 37 #[P0 t, I n] V.drew fun e w' => e = .returned (.tuple #[v, .bool f]) ∧ Hid (Below V.heap.size V w') := by
  refine (stat_W h hn hv hf V.drew (below_drew g)).mono ?_
  rintro e w' ⟨rfl, h2⟩
  exact ⟨rfl, (below_drew (Below.refl _ V)).trans (unhide h2)⟩
set_option maxRecDepth 100000 in
set_option maxHeartbeats 1000000 in
theorem kind_any (D : Wd lo N mb W t m E) (hw : Wn W b t m E am an s) (pm pn : Int) (hn : (kl pn).wf = true) :
    Calls Tryz.prog 236 #[P0 b, .agg #[I pm, I pn]] W fun e w' => e = .returned (I (E.T.kindOf pn)) ∧ Below W.heap.size W w' := by
  obtain ⟨a, mo, u, g, l, z, hst, -⟩ := stat_shape E.T pn
  obtain ⟨f, hf⟩ : ∃ f, (E.T.nd pn).isSome = f := ⟨_, rfl⟩
  obtain ⟨K, hK⟩ : ∃ K, K = E.T.kindOf pn := ⟨_, rfl⟩
  rw [← hK] at hst ⊢
  obtain ⟨c0, -⟩ := hw.cells
  obtain ⟨V, hV, g1, hB⟩ : ∃ V, W.alloc (.cells #[I pm, I pn] 50) = V ∧ V.heap[W.heap.size]? = some (.cells #[I pm, I pn] 50) ∧ Below W.heap.size W V := ⟨_, rfl, heap_alloc_new W _, (Below.refl _ W).alloc (Nat.le_refl _) _⟩
  have v0 := cell_be c0 hB
  have v1 : V.cell? ⟨W.heap.size, 1, none⟩ = some (I pn) := by rw [cell_of g1]; rfl
  have H1 := hide (stat_ahead D hn hst hf V hB)
  have H2 := hide (stat_behind D hn hst hf V hB)
  have HB := hide hB
  have hl := lt_of_heap g1
  have hbl := hw.lt
  have n1 : b ≠ V.heap.size := by omega
  have n2 : W.heap.size ≠ V.heap.size := by omega
  have n3 : V.heap.size ≠ b := by omega
  have n4 : V.heap.size ≠ W.heap.size := by omega
  clear D hw hst hf hK hn hB g1 c0
  unfold zst at H1
  go_enter Tryz.func236, Tryz.ntmps236
  go_wp2_with fail
  go_region_held3 (fun w' => w'.cell? ⟨b, 0, none⟩ = some (P0 t) ∧ w'.cell? ⟨W.heap.size, 1, none⟩ = some (I pn)) (go_keep)
    (first
      | (go_at_call 37; refine (unhide H1).mono ?_; rintro e w2 ⟨rfl, HB2, hz⟩; obtain ⟨r0, r1, r2, r3, r4, r5, r6, rf⟩ := cells7 hz; have HZ := hide hz; clear hz; have q0 := cell_be v0 (unhide HB2); have q1 := cell_be v1 (unhide HB2))
      | (go_at_call 37; refine (unhide H2).mono ?_; rintro e w2 ⟨rfl, HB2⟩; have q0 := cell_be v0 (unhide HB2); have q1 := cell_be v1 (unhide HB2)))
  · rename_i hHeld
    clear hHeld
    have e1 : (w2.alloc (.cells #[I a, I K, I mo, I u, I g, I l, I z] 33)).cell? ⟨w2.heap.size, 1, none⟩ = some (I K) := by rw [cell_of (heap_alloc_new _ _)]; rfl
    have HX := hide (((unhide HB).trans ((unhide HB2).mono (Nat.le_of_lt hl))).alloc (Nat.le_trans (Nat.le_of_lt hl) (unhide HB2).size) (.cells #[I a, I K, I mo, I u, I g, I l, I z] 33))
    generalize w2.alloc (.cells #[I a, I K, I mo, I u, I g, I l, I z] 33) = X at *
    go_wp2_with fail
    go_ret
    exact ⟨rfl, unhide HX⟩
  · rename_i hHeld
    clear hHeld
    obtain ⟨Y, hY, hYb, hYB⟩ := set7 (unhide HZ) (I a) (I K) (I mo) (I u) (I g) (I l) (I z)
    rw [hY]
    have e1 : Y.cell? ⟨V.heap.size, 1, none⟩ = some (I K) := by rw [cell_of hYb]; rfl
    have HX := hide (hYB _ _ ((unhide HB).trans ((unhide HB2).mono (Nat.le_of_lt hl))) (Nat.le_of_lt hl))
    clear hY hYb hYB r0 r1 r2 r3 r4 r5 r6 rf
    go_wp2_with fail
    go_ret
    exact ⟨rfl, unhide HX⟩
end
end Go.Proofs.YtlngeaacjbdmhaaGreat.Wl

namespace Go.Proofs.YtlngeaacjbdmhaaGreat.Wl
open Go.RowKit
attribute [local go_sem ↓] Go.wp_at_zero Go.wp_at_succ
section
variable {lo N mb : Nat} {W W' : World} {t m b : Nat} {E : En} {am an : Int} {s : Nat}
theorem Wd.lo_le (h : Wd lo N mb W t m E) : lo ≤ W.heap.size := h.tp.lo_le
theorem kind_wf {n : Int} (hn : E.T.kindOf n = 1) : ∃ x, E.T.nd n = some x ∧ x.kind = 1 := by
  unfold Tr.kindOf at hn
  cases e : E.T.nd n with
  | none => rw [e] at hn; simp at hn
  | some x => rw [e] at hn; exact ⟨x, rfl, hn⟩
set_option maxRecDepth 100000 in
set_option maxHeartbeats 1000000 in
theorem refusal_any (D : Wd lo N mb W t m E) (hw : Wn W b t m E am an s) (hn : (kl an).wf = true) :
    Calls Tryz.prog 232 #[P0 b] W fun e w' => e = .returned (I (E.refusal an)) ∧ Below W.heap.size W w' := by
  obtain ⟨a, mo, u, g, l, z, hst, hxx⟩ := stat_shape E.T an
  obtain ⟨f, hf⟩ : ∃ f, (E.T.nd an).isSome = f := ⟨_, rfl⟩
  obtain ⟨K, hK⟩ : ∃ K, K = E.T.kindOf an := ⟨_, rfl⟩
  rw [← hK] at hst
  obtain ⟨R, hR⟩ : ∃ R, R = E.refusal an := ⟨_, rfl⟩
  rw [← hR]
  have HR := hide hR
  have HX := hide hxx
  have HK := hide hK
  obtain ⟨v0, -, w2c, w3c, -, -, -, v7, -, -⟩ := hw.cells
  have H1 := hide (stat_ahead D hn hst hf W (Below.refl _ W))
  have H2 := hide (stat_behind D hn hst hf W (Below.refl _ W))
  have hbl := hw.lt
  have n1 : b ≠ W.heap.size := by omega
  have n3 : W.heap.size ≠ b := by omega
  clear D hw hst hf hK hn hxx hR
  unfold zst at H1
  go_enter Tryz.func232, Tryz.ntmps232
  go_wp2_with fail
  go_region_held3 (fun w' => w'.cell? ⟨b, 0, none⟩ = some (P0 t) ∧ w'.cell? ⟨b, 7, none⟩ = some (I an)) (go_keep)
    (first
      | (go_at_call 37; refine (unhide H1).mono ?_; rintro e w2 ⟨rfl, HB2, hz⟩; obtain ⟨r0, r1, r2, r3, r4, r5, r6, rf⟩ := cells7 hz; have HZ := hide hz; clear hz; have q0 := cell_be v0 (unhide HB2); have q1 := cell_be v7 (unhide HB2))
      | (go_at_call 37; refine (unhide H2).mono ?_; rintro e w2 ⟨rfl, HB2⟩; have q0 := cell_be v0 (unhide HB2); have q1 := cell_be v7 (unhide HB2)))
  · rename_i hHeld
    clear hHeld
    obtain ⟨Y, hY, hYb, hYB⟩ : ∃ Y, w2.alloc (.cells #[I a, I K, I mo, I u, I g, I l, I z] 33) = Y ∧ Y.heap[w2.heap.size]? = some (.cells #[I a, I K, I mo, I u, I g, I l, I z] 33) ∧ Below W.heap.size W Y := ⟨_, rfl, heap_alloc_new _ _, (unhide HB2).alloc (unhide HB2).size _⟩
    rw [hY]
    obtain ⟨e0, e1, e2, e3, e4, e5, e6, -⟩ := cells7 hYb
    have d2 := cell_be w2c hYB
    have d3 := cell_be w3c hYB
    have HY := hide hYB
    clear hY hYb hYB q0 q1 v0 v7 H1 H2 w2c w3c
    generalize w2.heap.size = y at *
    clear HB2
    by_cases hk : K = 1
    · have er : R = if (Kr.may E.cu E.cg mo u g 1) = true then 0 else 34 := by
        obtain ⟨x, hx, hx1⟩ := kind_wf ((unhide HK).symm.trans hk)
        obtain ⟨rfl, rfl, rfl⟩ := unhide HX x hx
        rw [unhide HR]
        unfold En.refusal En.may
        rw [← unhide HK, if_pos hk, hx]
      replace er := hide er
      have hk1 : (K == 1) = true := by simpa using hk
      obtain ⟨M, hM⟩ : ∃ M, Kr.may E.cu E.cg mo u g 1 = M := ⟨_, rfl⟩
      have HM := hide (fun w => Kr.may_any E.cu E.cg a K mo u g l z 1 w)
      rw [hM] at HM er
      clear hM
      rw [hk] at HM e1
      clear hk hk1
      go_wp2_with fail
      go_region_held3 (fun w' => w'.cell? ⟨b, 2, none⟩ = some (I E.cu) ∧ w'.cell? ⟨b, 3, none⟩ = some (I E.cg) ∧ w'.cell? ⟨y, 0, none⟩ = some (I a) ∧ w'.cell? ⟨y, 1, none⟩ = some (I 1) ∧ w'.cell? ⟨y, 2, none⟩ = some (I mo) ∧ w'.cell? ⟨y, 3, none⟩ = some (I u) ∧ w'.cell? ⟨y, 4, none⟩ = some (I g) ∧ w'.cell? ⟨y, 5, none⟩ = some (I l) ∧ w'.cell? ⟨y, 6, none⟩ = some (I z)) (go_keep)
        (first
          | (go_at_call 257; refine (unhide HM _).mono ?_; rintro e w3 ⟨rfl, hB3⟩; have HB3 := hide hB3; clear hB3; have p2 := cell_be (W := Y.drew) d2 (unhide HB3); have p3 := cell_be (W := Y.drew) d3 (unhide HB3); have s0 := cell_be (W := Y.drew) e0 (unhide HB3); have s1 := cell_be (W := Y.drew) e1 (unhide HB3); have s2 := cell_be (W := Y.drew) e2 (unhide HB3); have s3 := cell_be (W := Y.drew) e3 (unhide HB3); have s4 := cell_be (W := Y.drew) e4 (unhide HB3); have s5 := cell_be (W := Y.drew) e5 (unhide HB3); have s6 := cell_be (W := Y.drew) e6 (unhide HB3)))
      clear d2 d3 e0 e1 e2 e3 e4 e5 e6 p2 p3 s0 s1 s2 s3 s4 s5 s6
      have HZZ := hide ((unhide HY).trans ((below_drew (Below.refl Y.heap.size Y)).trans (unhide HB3) |>.mono (unhide HY).size))
      clear HB3 HY
      cases M with
      | true =>
        go_wp2_with fail
        go_ret
        exact ⟨by rw [unhide er]; rfl, unhide HZZ⟩
      | false =>
        go_wp2_with fail
        go_ret
        exact ⟨by rw [unhide er]; rfl, unhide HZZ⟩
    · have er : R = 37 := by
        rw [unhide HR]
        unfold En.refusal
        rw [← unhide HK, if_neg hk]
      replace er := hide er
      go_wp2_with fail
      go_ret
      exact ⟨by rw [unhide er]; rfl, unhide HY⟩
  · rename_i hHeld
    clear hHeld
    obtain ⟨Y, hY, hYb, hYB0⟩ := set7 (unhide HZ) (I a) (I K) (I mo) (I u) (I g) (I l) (I z)
    rw [hY]
    have hYB := hYB0 _ _ (unhide HB2) (Nat.le_refl _)
    obtain ⟨e0, e1, e2, e3, e4, e5, e6, -⟩ := cells7 hYb
    have d2 := cell_be w2c hYB
    have d3 := cell_be w3c hYB
    have HY := hide hYB
    clear hY hYb hYB hYB0 q0 q1 v0 v7 H1 H2 w2c w3c r0 r1 r2 r3 r4 r5 r6 rf HZ HB2
    obtain ⟨y, hy⟩ : ∃ y, y = W.heap.size := ⟨_, rfl⟩
    rw [← hy] at e0 e1 e2 e3 e4 e5 e6 n1 n3 ⊢
    replace hy := hide hy
    by_cases hk : K = 1
    · have er : R = if (Kr.may E.cu E.cg mo u g 1) = true then 0 else 34 := by
        obtain ⟨x, hx, hx1⟩ := kind_wf ((unhide HK).symm.trans hk)
        obtain ⟨rfl, rfl, rfl⟩ := unhide HX x hx
        rw [unhide HR]
        unfold En.refusal En.may
        rw [← unhide HK, if_pos hk, hx]
      replace er := hide er
      have hk1 : (K == 1) = true := by simpa using hk
      obtain ⟨M, hM⟩ : ∃ M, Kr.may E.cu E.cg mo u g 1 = M := ⟨_, rfl⟩
      have HM := hide (fun w => Kr.may_any E.cu E.cg a K mo u g l z 1 w)
      rw [hM] at HM er
      clear hM
      rw [hk] at HM e1
      clear hk hk1
      go_wp2_with fail
      go_region_held3 (fun w' => w'.cell? ⟨b, 2, none⟩ = some (I E.cu) ∧ w'.cell? ⟨b, 3, none⟩ = some (I E.cg) ∧ w'.cell? ⟨y, 0, none⟩ = some (I a) ∧ w'.cell? ⟨y, 1, none⟩ = some (I 1) ∧ w'.cell? ⟨y, 2, none⟩ = some (I mo) ∧ w'.cell? ⟨y, 3, none⟩ = some (I u) ∧ w'.cell? ⟨y, 4, none⟩ = some (I g) ∧ w'.cell? ⟨y, 5, none⟩ = some (I l) ∧ w'.cell? ⟨y, 6, none⟩ = some (I z)) (go_keep)
        (first
          | (go_at_call 257; refine (unhide HM _).mono ?_; rintro e w3 ⟨rfl, hB3⟩; have HB3 := hide hB3; clear hB3; have p2 := cell_be (W := Y.drew) d2 (unhide HB3); have p3 := cell_be (W := Y.drew) d3 (unhide HB3); have s0 := cell_be (W := Y.drew) e0 (unhide HB3); have s1 := cell_be (W := Y.drew) e1 (unhide HB3); have s2 := cell_be (W := Y.drew) e2 (unhide HB3); have s3 := cell_be (W := Y.drew) e3 (unhide HB3); have s4 := cell_be (W := Y.drew) e4 (unhide HB3); have s5 := cell_be (W := Y.drew) e5 (unhide HB3); have s6 := cell_be (W := Y.drew) e6 (unhide HB3)))
      clear d2 d3 e0 e1 e2 e3 e4 e5 e6 p2 p3 s0 s1 s2 s3 s4 s5 s6
      have HZZ := hide ((unhide HY).trans ((below_drew (Below.refl Y.heap.size Y)).trans (unhide HB3) |>.mono (unhide HY).size))
      clear HB3 HY
      cases M with
      | true =>
        go_wp2_with fail
        go_ret
        exact ⟨by rw [unhide er]; rfl, unhide HZZ⟩
      | false =>
        go_wp2_with fail
        go_ret
        exact ⟨by rw [unhide er]; rfl, unhide HZZ⟩
    · have er : R = 37 := by
        rw [unhide HR]
        unfold En.refusal
        rw [← unhide HK, if_neg hk]
      replace er := hide er
      go_wp2_with fail
      go_ret
      exact ⟨by rw [unhide er]; rfl, unhide HY⟩
end
end Go.Proofs.YtlngeaacjbdmhaaGreat.Wl

namespace Go.Proofs.YtlngeaacjbdmhaaGreat.Wl
open Go.RowKit
attribute [local go_sem ↓] Go.wp_at_zero Go.wp_at_succ
section
variable {lo N mb : Nat} {W W' : World} {t m b : Nat} {E : En} {am an : Int} {s : Nat}
theorem down_W (D : Wd lo N mb W t m E) (x y : Int) {p q : Int} (hp : (E.down x y).1 = p) (hq : (E.down x y).2 = q) (V : World) (g : Below W.heap.size W V) :
    Calls Tryz.prog 38 #[P0 m, .agg #[I x, I y]] V fun e w' => e = .returned (.agg #[I p, I q]) ∧ Hid (Below V.heap.size V w') := by
  rw [← hp, ← hq]
  exact Mt.down_any mb m E.rt E.md x y E.es V (D.ls.below g) D.le D.el
theorem up_W (D : Wd lo N mb W t m E) (x y : Int) {p q : Int} {f : Bool} (hp : Mt.upM E.es x y = p) (hq : Mt.upN E.es x y = q) (hf : Mt.upIs E.es x y = f) (V : World) (g : Below W.heap.size W V) :
    Calls Tryz.prog 272 #[P0 m, .agg #[I x, I y]] V fun e w' => e = .returned (.tuple #[.agg #[I p, I q], .bool f]) ∧ Hid (Below V.heap.size V w') := by
  rw [← hp, ← hq, ← hf]
  exact Mt.up_any mb m E.rt E.md x y E.es V (D.ls.below g) D.le
theorem find_W (D : Wd lo N mb W t m E) {n : Int} (hn : (kl n).wf = true) (p : Bytes) {x : Int} {f : Bool} (hx : (E.T.findN n (bs p)).getD 0 = x) (hf : (E.T.findN n (bs p)).isSome = f) (V : World) (g : Below W.heap.size W V) :
    Calls Tryz.prog 55 #[P0 t, I n, .string (bs p)] V fun e w' => e = .returned (.tuple #[I x, .bool f]) ∧ Hid (Below V.heap.size V w') := by
  obtain ⟨q, pp, nb, ev, h1⟩ := D.tp
  rw [← hx, ← hf]
  exact tfind_any (h1.below g) D.wk (by omega) hn (bs p)
theorem text_W (D : Wd lo N mb W t m E) {n : Int} (hn : (kl n).wf = true) {l : Bytes} (hl : E.text n = l) (V : World) (g : Below W.heap.size W V) :
    Calls Tryz.prog 58 #[P0 t, I n] V fun e w' => e = .returned (.string (bs l)) ∧ Hid (Below V.heap.size V w') := by
  obtain ⟨q, pp, nb, ev, h1⟩ := D.tp
  rw [← hl]
  exact text_any (h1.below g) D.wk hn
theorem tup_W (D : Wd lo N mb W t m E) {n : Int} (hn : (kl n).wf = true) {y : Int} (hy : E.T.up n = y) (V : World) (g : Below W.heap.size W V) :
    Calls Tryz.prog 89 #[P0 t, I n] V fun e w' => e = .returned (I y) ∧ Hid (Below V.heap.size V w') := by
  obtain ⟨q, pp, nb, ev, h1⟩ := D.tp
  rw [← hy]
  refine (up_any (h1.below g) hn).mono ?_
  rintro e w' ⟨rfl, k, rfl⟩
  exact ⟨rfl, below_n _ k⟩
/-- An answer of two cells, stored into a block of its own. -/
theorem ans2 {V w3 : World} {R : Nat} {a0 a1 : Value} {ty : TypeId} (hR : V.heap[R]? = some (.cells #[a0, a1] ty)) (hB : Below V.heap.size V w3) (v0 v1 : Value) :
    ∃ X1 X2 : World, (w3.setCell ⟨R, 0, none⟩ v0 = X1 ∧ X1.setCell ⟨R, 1, none⟩ v1 = X2) ∧ (w3.cell? ⟨R, 0, none⟩ = some a0 ∧ X1.cell? ⟨R, 1, none⟩ = some a1) ∧ (w3.frozen? ⟨R, 0, none⟩ = false ∧ X1.frozen? ⟨R, 1, none⟩ = false) ∧
      X2.heap[R]? = some (.cells #[v0, v1] ty) ∧ (∀ k, k ≠ R → k < V.heap.size → X2.heap[k]? = V.heap[k]?) ∧ (∀ B u, Below B u w3 → B ≤ R → Below B u X2) ∧ X2.heap.size = w3.heap.size := by
  obtain ⟨X1, X2, h1, h2, h3, h4, h5, h6⟩ := Mt.store2 ((hB.block R (lt_of_heap hR)).trans hR) v0 v1
  refine ⟨X1, X2, h1, h2, h3, h4, fun k hk hl => (h5.blk k (Nat.lt_of_lt_of_le hl hB.size) (by simpa using hk)).trans (hB.block k hl), fun B u hu hb => hu.trans (h5.base ?_ (by simpa using hb)), h6⟩
  have := lt_of_heap hR
  have := hB.size
  omega
theorem cell_kp {V X : World} {k i : Nat} {v : Value} (h : V.cell? ⟨k, i, none⟩ = some v) (g : X.heap[k]? = V.heap[k]?) : X.cell? ⟨k, i, none⟩ = some v := by
  rw [← h]
  exact World.cell?_of_block g
set_option maxRecDepth 100000 in
set_option maxHeartbeats 1000000 in
theorem find_any (D : Wd lo N mb W t m E) (hw : Wn W b t m E am an s) (hn : (kl an).wf = true) (p : Bytes) (x y : Int) (f : Bool) (hx : ((E.find p am an).getD (0, 0)).1 = x) (hy : ((E.find p am an).getD (0, 0)).2 = y) (hf : (E.find p am an).isSome = f) :
    Calls Tryz.prog 234 #[P0 b, .string (bs p)] W fun e w' => e = .returned (.tuple #[.agg #[I x, I y], .bool f]) ∧ Below W.heap.size W w' := by
  obtain ⟨k, hk⟩ : ∃ k, (E.T.findN an (bs p)).getD 0 = k := ⟨_, rfl⟩
  have hf' : (E.T.findN an (bs p)).isSome = f := by rw [← hf]; simp [En.find]
  obtain ⟨V, hV, g1, hB⟩ : ∃ V, W.alloc (.cells #[I 0, I 0] 50) = V ∧ V.heap[W.heap.size]? = some (.cells #[I 0, I 0] 50) ∧ Below W.heap.size W V := ⟨_, rfl, heap_alloc_new W _, (Below.refl _ W).alloc (Nat.le_refl _) _⟩
  have hbl := hw.lt
  have hVl := lt_of_heap g1
  obtain ⟨v0, -, -, -, -, -, -, v7, -, -⟩ := (hw.below hB).cells
  have H1 := hide (find_W D hn p hk hf' V.drew (below_drew hB))
  have HD := hide D
  have HB := hide hB
  have HG := hide g1
  have Hw := hide hw
  have n1 : b ≠ W.heap.size := by omega
  have n3 : W.heap.size ≠ b := by omega
  cases f with
  | false =>
    have hfn : E.find p am an = none := by simpa using hf
    rw [hfn] at hx hy
    obtain rfl : (0 : Int) = x := hx
    obtain rfl : (0 : Int) = y := hy
    clear hfn hf hf' hk D hw hn hB g1 HD
    go_enter Tryz.func234, Tryz.ntmps234
    go_wp2_with fail
    go_region_held3 (fun w' => w'.cell? ⟨b, 0, none⟩ = some (P0 t) ∧ w'.cell? ⟨b, 7, none⟩ = some (I an)) (go_keep)
      (first
        | (go_at_call 55; refine (unhide H1).mono ?_; rintro e w3 ⟨rfl, HB3⟩; have q0 := cell_be (W := V.drew) v0 (unhide HB3); have q7 := cell_be (W := V.drew) v7 (unhide HB3)))
    obtain ⟨X1, X2, ⟨x1, x2⟩, ⟨y0, y1⟩, ⟨f0, f1⟩, hX, -, hXB, -⟩ := ans2 (unhide HG) ((below_drew (Below.refl _ V)).trans (unhide HB3)) (I 0) (I 0)
    have HX := hide (hXB _ _ ((unhide HB).trans (((below_drew (Below.refl _ V)).trans (unhide HB3)).mono (Nat.le_of_lt hVl))) (Nat.le_refl _))
    have z0 : X2.cell? ⟨W.heap.size, 0, none⟩ = some (I 0) := by rw [cell_of hX]; rfl
    have z1 : X2.cell? ⟨W.heap.size, 1, none⟩ = some (I 0) := by rw [cell_of hX]; rfl
    clear hX hXB H1 v0 v7 q0 q7 HB3
    go_wp2_with fail
    refine bodyPost_ret (v := .tuple #[.agg #[I 0, I 0], .bool false]) (by simp [results, Tryz.results234, go_sem, z0, z1]) rfl ?_
    exact ⟨rfl, unhide HX⟩
  | true =>
    obtain ⟨k', hk'⟩ := Option.isSome_iff_exists.1 hf'
    have hfn : E.find p am an = some (E.down am k') := by rw [En.find, hk']; rfl
    rw [hk'] at hk
    obtain rfl : k' = k := hk
    rw [hfn] at hx hy
    have hx' : (E.down am k').1 = x := hx
    have hy' : (E.down am k').2 = y := hy
    clear hfn hf hf' hk' D hw hn hB g1 hx hy
    go_enter Tryz.func234, Tryz.ntmps234
    go_wp2_with fail
    go_region_held3 (fun w' => w'.cell? ⟨b, 0, none⟩ = some (P0 t) ∧ w'.cell? ⟨b, 7, none⟩ = some (I an)) (go_keep)
      (first
        | (go_at_call 55; refine (unhide H1).mono ?_; rintro e w3 ⟨rfl, HB3⟩; have q0 := cell_be (W := V.drew) v0 (unhide HB3); have q7 := cell_be (W := V.drew) v7 (unhide HB3)))
    have hBV : Below V.heap.size V w3.drew := below_drew ((below_drew (Below.refl _ V)).trans (unhide HB3))
    have hBW : Below W.heap.size W w3.drew := (unhide HB).trans (hBV.mono (Nat.le_of_lt hVl))
    obtain ⟨-, p1, -, -, -, -, p6, -, -, -⟩ := ((unhide Hw).below hBW).cells
    have p1' : w3.cell? ⟨b, 1, none⟩ = some (P0 m) := p1
    have p6' : w3.cell? ⟨b, 6, none⟩ = some (I am) := p6
    have H3 := hide (down_W (unhide HD) am k' hx' hy' w3.drew hBW)
    have HG3 : Hid (w3.drew.heap[W.heap.size]? = some (.cells #[I 0, I 0] 50)) := (hBV.block _ hVl).trans (unhide HG)
    have HBW := hide hBW
    have hls : b < w3.drew.heap.size := Nat.lt_of_lt_of_le hbl hBW.size
    rename_i hHeld
    clear H1 v0 v7 q0 q7 HB3 hBV hBW HG hHeld hx' hy' p1 p6
    go_wp2_with fail
    go_region_held3 (fun w' => w'.cell? ⟨b, 1, none⟩ = some (P0 m) ∧ w'.cell? ⟨b, 6, none⟩ = some (I am)) (go_keep)
      (first
        | (go_at_call 38; refine (unhide H3).mono ?_; rintro e w4 ⟨rfl, HB4⟩; have q1 := cell_be (W := w3.drew) p1' (unhide HB4); have q6 := cell_be (W := w3.drew) p6' (unhide HB4); obtain ⟨X1, X2, ⟨x1, x2⟩, ⟨y0, y1⟩, ⟨f0, f1⟩, hX, hXk, hXB, hXs⟩ := ans2 (unhide HG3) (unhide HB4) (I x) (I y); have s1 : X2.cell? ⟨b, 1, none⟩ = some (P0 m) := cell_kp (V := w3.drew) p1' (hXk b n1 hls); have s6 : X2.cell? ⟨b, 6, none⟩ = some (I am) := cell_kp (V := w3.drew) p6' (hXk b n1 hls); have HXf := hide hX; have HXB := hide hXB; clear hX hXk hXB hXs))
    have hX := unhide HXf
    have HX := hide (unhide HXB _ _ ((unhide HBW).trans ((unhide HB4).mono (unhide HBW).size)) (Nat.le_refl _))
    have z0 : X2.cell? ⟨W.heap.size, 0, none⟩ = some (I x) := by rw [cell_of hX]; rfl
    have z1 : X2.cell? ⟨W.heap.size, 1, none⟩ = some (I y) := by rw [cell_of hX]; rfl
    clear hX HXf HXB H3
    go_wp2_with fail
    refine bodyPost_ret (v := .tuple #[.agg #[I x, I y], .bool true]) (by simp [results, Tryz.results234, go_sem, z0, z1]) rfl ?_
    exact ⟨rfl, unhide HX⟩
end
end Go.Proofs.YtlngeaacjbdmhaaGreat.Wl
