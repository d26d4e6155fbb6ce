/-
  Numbers brought within bounds; writes that are not refused.
-/
import Derived.Test.YtaogokgklkdmpaaIn
namespace Go.Proofs.Ytaogokgklkdmpaa
open Go.RowKit Go.Maps

set_option maxHeartbeats 400000 in
theorem within_any (v hi : Int) (w : World) (h0 : 0 ≤ hi) (h1 : hi ≤ 1000) :
    Calls Try.prog 30 #[.int .i64 v, .int .i64 0, .int .i64 hi] w fun e w' => (∃ r : Nat, (r : Int) ≤ hi ∧ e = .returned (I (r : Int))) ∧ w' = w := by
  have t1 : v.tmod (hi + 1) < hi + 1 := Int.tmod_lt_of_pos v (by omega)
  have t2 : -(hi + 1) < v.tmod (hi + 1) := by
    have h := Int.tmod_lt_of_pos (-v) (show 0 < hi + 1 by omega)
    rw [Int.neg_tmod] at h
    omega
  have t3 : ¬ hi + 1 = 0 := by omega
  by_cases hn : v.tmod (hi + 1) < 0
  · go_enter Try.func30, Try.ntmps30
    go_wp2
    go_ret
    refine ⟨⟨(v.tmod (hi + 1) + hi + 1).toNat, by omega, ?_⟩, rfl⟩
    rw [Int.toNat_of_nonneg (by omega)]
    rfl
  · go_enter Try.func30, Try.ntmps30
    go_wp2
    go_ret
    refine ⟨⟨(v.tmod (hi + 1)).toNat, by omega, ?_⟩, rfl⟩
    rw [Int.toNat_of_nonneg (by omega)]
    rfl
theorem lacks_le (x : F) (a n : Nat) : x.lacks a n ≤ 64 := cnt_le _ _
/-- A write for which there is room whatever it needs. -/
theorem write_good {s : S} {f : Int} {x : F} (hx : s.get f = some x) (a n : Nat) (g : Nat → Int) (ha : a + n ≤ 1024) (hl : 64 ≤ s.left) :
    writeE s f (a : Int) n = 0 ∧ ∃ y, (writeS s f (a : Int) n g).get f = some y ∧ y.byte = lay x.byte a n g ∧ y.size = (if n = 0 then x.size else max x.size (a + n)) ∧ y.has = layH x.has a n ∧ s.left ≤ (writeS s f (a : Int) n g).left + 64 := by
  have h1 : ¬ (a : Int) < 0 := by omega
  have h2 : ¬ (1024 : Int) < (a : Int) + (n : Int) := by omega
  have h3 := lacks_le x a n
  have h4 : ¬ s.left < x.lacks a n := by omega
  by_cases hn : n = 0
  · subst hn
    simp only [writeE, writeS, hx, if_neg h1, if_true]
    exact ⟨trivial, x, rfl, (lay_zero _ _ _).symm, rfl, (layH_zero _ _).symm, by omega⟩
  · simp only [writeE, writeS, hx, if_neg h1, if_neg hn, if_neg h2, Int.toNat_natCast]
    rw [if_neg h4, if_neg h4]
    refine ⟨rfl, x.write a n g, ?_, rfl, rfl, rfl, ?_⟩
    · rw [S.get_put hx, if_pos rfl]
    · simp only [S.put]
      omega
theorem add_get (n : Nat) : ((⟨n, []⟩ : S).add).get 1 = some F.empty := by rw [S.get_add]; simp
/-- Bytes that are cut to so many. -/
theorem In.take {W : World} {a : Option Addr} {n cap m : Nat} {g : Nat → Int} (h : In W a n cap g) (hm : m ≤ n) : In W a m cap g := fun h0 => by
  obtain ⟨sb, so, h1, h2, h3⟩ := h (by omega)
  exact ⟨sb, so, h1, fun j hj => h2 j (by omega), by omega⟩
/-- What the base of a law has is kept. -/
theorem In.base {base : Nat} {w W : World} {a : Option Addr} {n cap : Nat} {g : Nat → Int} (h : In w a n cap g) (hb : base = w.heap.size) (k : Below base w W) : In W a n cap g := by
  subst hb
  exact h.below k
theorem row_src {W : World} {sb so n : Nat} {g : Nat → Int} (h : Bs W sb so n g) : ∀ j v, (lst g 0 n)[j]? = some v → W.cell? ((⟨sb, so, none⟩ : Addr).add j) = some v := by
  intro j v hv
  rw [lst_get] at hv
  split at hv
  · rename_i hj
    rw [Addr.add_mid, h j hj, ← hv, Nat.zero_add]
  · cases hv
/-- Bytes that are copied into a row that is known whole. -/
theorem copy_in {W : World} {g z r n m c cap : Nat} {f gg : Nat → Int} {a0 : Option Addr} (hg : W.heap[g]? = some (.cells (lst f 0 z).toArray 5)) (hin : In W a0 n cap gg) (hn : 0 < n) (hfit : r + n ≤ z) (hm : n ≤ m) :
    ∃ W', (∀ ty, (Builtin.copy_ #[28, 28] ty #[.slice (some ⟨g, r, none⟩) m c, .slice a0 n cap]).run Try.prog W = .ok (I (n : Int)) W') ∧ W'.heap[g]? = some (.cells (lst (lay f r n gg) 0 z).toArray 5) ∧ Fr [g] W W' ∧ W'.heap.size = W.heap.size := by
  obtain ⟨sb, so, rfl, hbs, _⟩ := hin hn
  have hr := fun ty => run_copy_row (P := Try.prog) W 28 28 ty 5 g r m c ⟨sb, so, none⟩ n cap (lst f 0 z).toArray 5 (lst gg 0 n) Try.underlying28 size5 hg (by rw [lst_length]; exact (Nat.min_eq_left hm).symm) (row_src hbs) (by simp [lst_length]; omega) (lst_one _ _ _)
  have e : (lst f 0 z).toArray.toList.take r ++ lst gg 0 n ++ (lst f 0 z).toArray.toList.drop (r + (lst gg 0 n).length) = lst (lay f r n gg) 0 z := by
    rw [List.append_assoc]
    refine splice_lst hfit ?_ ?_
    · intro j hj
      simp only [lay]
      rw [if_pos (by omega)]
      congr 1
      omega
    · intro j hj ho
      simp only [lay]
      rw [if_neg (by omega)]
  rw [e, lst_length] at hr
  refine ⟨_, hr, setRow_heap W g _ _ 5 _ hg, ⟨rfl, rfl, rfl, by simp [World.setRow], fun k _ hk => setRow_other W g k _ (by simpa using hk)⟩, by simp [World.setRow]⟩
end Go.Proofs.Ytaogokgklkdmpaa
