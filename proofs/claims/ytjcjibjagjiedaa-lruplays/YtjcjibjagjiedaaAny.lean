/-
  A list as a law sees it: a plain list of entries; each call by one contract. Rows of strings; what known, Within and Same answer.
-/
import Derived.Test.YtjcjibjagjiedaaShr
namespace Go.Proofs.Ytjcjibjagjiedaa
open Go.RowKit
attribute [local go_sem ↓] Go.wp_at_zero Go.wp_at_succ

/-- The law's list, made since w0. -/
structure Lt (w0 W : World) (b : Nat) (mo : Int) (es : Ents) : Prop where
  ls : Ls w0.heap.size W b mo es
  be : Below w0.heap.size w0 W
section
variable {w0 W W' : World} {b : Nat} {mo : Int} {es es' : Ents}
theorem Lt.below (h : Lt w0 W b mo es) (g : Below W.heap.size W W') : Lt w0 W' b mo es := ⟨h.ls.below g, h.be.trans (g.mono h.ls.base_le)⟩
theorem Lt.drew (h : Lt w0 W b mo es) : Lt w0 W.drew b mo es := h.below (below_drew (Below.refl _ W))
theorem Lt.dn (h : Lt w0 W b mo es) (m : Nat) : Lt w0 (W.drewN m) b mo es := h.below (below_dn (Below.refl _ W) m)
theorem Lt.fr (h : Lt w0 W b mo es) (L : Ls w0.heap.size W' b mo es') (F : Fr w0.heap.size b W W') : Lt w0 W' b mo es' := ⟨L, h.be.trans F.below⟩
theorem Lt.le (h : Lt w0 W b mo es) : w0.heap.size ≤ W.heap.size := h.be.size
theorem own_fr {base' : Nat} {v : Value} {n : Nat} {xs : List Value} {t : TypeId} {s : Nat} (F : Fr w0.heap.size b W W') (h : Lt w0 W b mo es) (ht : t ≠ 54) (ht2 : t ≠ 47) (own : W.ownsRow base' t s v n xs) : W'.ownsRow base' t s v n xs :=
  own_keep own fun k cur hc => (F.blk k _ hc (by rintro rfl; obtain ⟨_, _, q, _⟩ := h.ls.hb; rw [q] at hc; simp at hc; exact ht2 hc.2.symm) (by intro c e; simp at e; exact ht e.2)).trans hc.symm

theorem use_T (key : ByteArray) (h : Lt w0 W b mo es) (hes : es.length ≤ 900) :
    Calls Try.prog 9 #[.pointer (some ⟨b, 0, none⟩), .string key] W fun e w' => e = .returned (.tuple #[.string (useS mo es key).1, .bool (useS mo es key).2.1]) ∧ Lt w0 w' b mo (useS mo es key).2.2 ∧ Fr w0.heap.size b W w' :=
  (use_any _ b mo es key W h.ls hes).mono fun _ _ ⟨he, L, F⟩ => ⟨he, h.fr L F, F⟩
theorem drop_T (key : ByteArray) (h : Lt w0 W b mo es) (hes : es.length ≤ 900) :
    Calls Try.prog 16 #[.pointer (some ⟨b, 0, none⟩), .string key] W fun e w' => e = .returned (.bool (has es key)) ∧ Lt w0 w' b mo (dropM es key) ∧ Fr w0.heap.size b W w' :=
  (drop_any _ b mo es key W h.ls (by omega)).mono fun _ _ ⟨he, L, F⟩ => ⟨he, h.fr L F, F⟩
theorem pin_T (key : ByteArray) (h : Lt w0 W b mo es) (hf : Fit 1000 es) :
    Calls Try.prog 10 #[.pointer (some ⟨b, 0, none⟩), .string key] W fun e w' => e = .returned (.bool (has es key)) ∧ Lt w0 w' b mo (pinM es key) ∧ Fr w0.heap.size b W w' :=
  (pin_any _ b mo es key W h.ls hf).mono fun _ _ ⟨he, L, F⟩ => ⟨he, h.fr L F, F⟩
theorem unpin_T (key : ByteArray) (h : Lt w0 W b mo es) (hf : Fit 1000 es) :
    Calls Try.prog 13 #[.pointer (some ⟨b, 0, none⟩), .string key] W fun e w' => e = .returned (.bool (has es key && decide (0 < pins es key))) ∧ Lt w0 w' b mo (unpinM es key) ∧ Fr w0.heap.size b W w' :=
  (unpin_any _ b mo es key W h.ls hf).mono fun _ _ ⟨he, L, F⟩ => ⟨he, h.fr L F, F⟩
theorem has_T (key : ByteArray) (h : Lt w0 W b mo es) (hes : es.length ≤ 900) :
    Calls Try.prog 25 #[.pointer (some ⟨b, 0, none⟩), .string key] W fun e w' => e = .returned (.bool (has es key)) ∧ Lt w0 w' b mo es ∧ Below W.heap.size W w' :=
  (has_any _ b mo es key W h.ls (by omega)).mono fun _ _ ⟨he, B⟩ => ⟨he, h.below B, B⟩
theorem len_T (h : Lt w0 W b mo es) :
    Calls Try.prog 11 #[.pointer (some ⟨b, 0, none⟩)] W fun e w' => e = .returned (.int .i64 (es.length : Int)) ∧ w' = W := len_any _ b mo es W h.ls
theorem oldest_T (n : Int) (h : Lt w0 W b mo es) (hes : es.length ≤ 900) :
    Calls Try.prog 14 #[.pointer (some ⟨b, 0, none⟩), .int .i64 n] W fun e w' => ∃ a cap, e = .returned (.slice a (olds es n).length cap) ∧ w'.ownsRow W.heap.size 9 1 (.slice a (olds es n).length cap) (olds es n).length (strs (olds es n)) ∧ Lt w0 w' b mo es ∧ Below W.heap.size W w' :=
  (oldest_any _ b mo n es W h.ls (by omega)).mono fun _ _ ⟨v, he, own, B⟩ => by
    obtain ⟨a, cap, rfl⟩ := own_form own
    exact ⟨a, cap, he, own, h.below B, B⟩
theorem shrink_T (n : Int) (h : Lt w0 W b mo es) (hes : es.length ≤ 900) :
    Calls Try.prog 12 #[.pointer (some ⟨b, 0, none⟩), .int .i64 n] W fun e w' => ∃ a cap, e = .returned (.slice a (shr n es).1.length cap) ∧ w'.ownsRow W.heap.size 9 1 (.slice a (shr n es).1.length cap) (shr n es).1.length (strs (shr n es).1) ∧ Lt w0 w' b mo (shr n es).2 ∧ Fr w0.heap.size b W w' :=
  (shrink_any _ b mo n es W h.ls (by omega)).mono fun _ _ ⟨v, he, own, L, F⟩ => by
    obtain ⟨a, cap, rfl⟩ := own_form own
    exact ⟨a, cap, he, own, h.fr L F, F⟩
end
theorem new_T (m : Int) (h1 : ¬ m < 1) (h2 : ¬ 64 < m) (w : World) :
    Calls Try.prog 8 #[.int .i64 m] w fun e w' => ∃ b, e = .returned (.tuple #[.pointer (some ⟨b, 0, none⟩), .int .i64 0]) ∧ Lt w w' b m [] :=
  (new_good m h1 h2 w).mono fun _ _ ⟨he, L, B⟩ => ⟨_, he, L, B⟩

/-- A row of strings. -/
def RowO (W : World) (pa : Option Addr) (kl : List ByteArray) : Prop := ∀ (k : Nat) (s : ByteArray), kl[k]? = some s → ∃ b off, pa = some ⟨b, off, none⟩ ∧ b < W.heap.size ∧ W.cell? ⟨b, off + k, none⟩ = some (.string s)
theorem RowO.below {W W' : World} {pa : Option Addr} {kl : List ByteArray} (h : RowO W pa kl) (g : Below W.heap.size W W') : RowO W' pa kl := fun k s hk => by
  obtain ⟨b, off, h1, h2, h3⟩ := h k s hk
  exact ⟨b, off, h1, Nat.lt_of_lt_of_le h2 g.size, (World.cell?_of_block (g.block b h2)).trans h3⟩
theorem RowO.of_own {W : World} {base : Nat} {a : Option Addr} {m cap n : Nat} {ks : List ByteArray} (h : W.ownsRow base 9 1 (.slice a m cap) n (strs ks)) : RowO W a ks := fun k s hk => by
  have hl := h.1
  have hk1 := (List.getElem?_eq_some_iff.1 hk).1
  simp at hl
  obtain ⟨g, cap', cur, e1, _, hg, _, _, _, hx⟩ := own_open h (by omega)
  simp only [Value.slice.injEq] at e1
  refine ⟨g, 0, e1.1, lt_of_heap hg, ?_⟩
  rw [Nat.zero_add]
  exact hx _ _ (by simp [strs, hk])
set_option maxHeartbeats 1000000 in
theorem same_yes (pa pb : Option Addr) (c c' L : Nat) (kl : List ByteArray) (hll : kl.length = L) (hl : L ≤ 1000000) (w : World) (h : RowO w pa kl) (h' : RowO w pb kl) :
    Calls Try.prog 15 #[.slice pa L c, .slice pb L c'] w fun e w' => e = .returned (.bool true) ∧ Below w.heap.size w w' := by
  have H := hide h
  have H' := hide h'
  clear h h'
  replace hll := hide hll
  go_enter Try.func15, Try.ntmps15
  go_wp2_with fail
  go_loopw [5] (fun i wr => ∃ j : Nat, j ≤ L ∧ i = .int .i64 j ∧ ∃ m, wr = w.drewN m) (fun i _ => L - (intOf i).toNat)
  case atStart => exact ⟨0, by omega, rfl, 0, rfl⟩
  case round =>
    obtain ⟨j, hj, rfl, m, rfl⟩ := hrel
    by_cases hlt : j < L
    · have j0 : (0 : Int) ≤ (j : Int) := by omega
      have j1 : (j : Int) < (L : Int) := by omega
      obtain ⟨s, hs⟩ : ∃ s, kl[j]? = some s := ⟨_, List.getElem?_eq_getElem (by rw [unhide hll]; exact hlt)⟩
      obtain ⟨b, off, rfl, -, c1⟩ := (unhide H) j s hs
      obtain ⟨b', off', rfl, -, c2⟩ := (unhide H') j s hs
      clear hs
      go_wp2_with fail
      go_quiet (fail)
      go_wp2_with fail
      exact ⟨⟨j + 1, by omega, rfl, m + nq, by simp [World.drewN]⟩, by simp [intOf]; omega⟩
    · have j1 : ¬ (j : Int) < (L : Int) := by omega
      go_wp2_with fail
      go_ret
      exact ⟨rfl, below_dn (Below.refl _ w) m⟩
set_option maxHeartbeats 400000 in
theorem within_any (v hi : Int) (w : World) (h0 : 0 ≤ hi) (h1 : hi ≤ 1000) :
    Calls Try.prog 28 #[.int .i64 v, .int .i64 0, .int .i64 hi] w fun e w' => (∃ r : Int, 0 ≤ r ∧ r ≤ hi ∧ e = .returned (.int .i64 r)) ∧ w' = w := by
  have t1 : v.tmod (hi + 1) < hi + 1 := Int.tmod_lt_of_pos v (by omega)
  have t2 : -(hi + 1) < v.tmod (hi + 1) := by
    have h := Int.tmod_lt_of_pos (-v) (show 0 < hi + 1 by omega)
    rw [Int.neg_tmod] at h
    omega
  have t3 : ¬ hi + 1 = 0 := by omega
  by_cases hn : v.tmod (hi + 1) < 0
  · go_enter Try.func28, Try.ntmps28
    go_wp2
    go_ret
    exact ⟨⟨_, by omega, by omega, rfl⟩, rfl⟩
  · go_enter Try.func28, Try.ntmps28
    go_wp2
    go_ret
    exact ⟨⟨_, by omega, by omega, rfl⟩, rfl⟩

abbrev kA : ByteArray := ⟨#[97]⟩
abbrev kB : ByteArray := ⟨#[98]⟩
abbrev kC : ByteArray := ⟨#[99]⟩
theorem u1 (mo : Int) (h : 1 ≤ mo) (k : ByteArray) : useS mo [] k = (⟨#[]⟩, false, [(k, 0)]) := by
  have e : endM [] k = [(k, 0)] := rfl
  simp [useS, e, h]
theorem u2 : useS 2 [(kA, 0)] kB = (⟨#[]⟩, false, [(kA, 0), (kB, 0)]) := by kernel_rfl
theorem u3 : useS 2 [(kA, 0), (kB, 0)] kA = (⟨#[]⟩, false, [(kB, 0), (kA, 0)]) := by kernel_rfl
theorem u4 : useS 2 [(kB, 0), (kA, 0)] kC = (kB, true, [(kA, 0), (kC, 0)]) := by kernel_rfl
theorem u5 : has [(kA, 0), (kC, 0)] kA = true := by kernel_rfl
theorem u6 : has [(kA, 0), (kC, 0)] kB = false := by kernel_rfl
set_option maxHeartbeats 1000000 in
theorem known_any (w : World) : Calls Try.prog 17 #[] w fun e w' => e = .returned (.bool true) ∧ Below w.heap.size w w' := by
  have K1 := hide (new_T 2 (by omega) (by omega) w)
  go_enter Try.func17, Try.ntmps17
  go_wp2_with fail
  refine (unhide K1).mono ?_
  rintro e w1 ⟨b, rfl, T1⟩
  have K2 := hide (use_T ⟨#[97]⟩ T1 (by simp))
  rw [u1 2 (by omega)] at K2
  clear T1 K1
  go_wp2_with fail
  refine (unhide K2).mono ?_
  rintro e w2 ⟨rfl, T2, -⟩
  have K3 := hide (use_T ⟨#[98]⟩ T2 (by simp))
  rw [u2] at K3
  clear T2 K2
  go_wp2_with fail
  refine (unhide K3).mono ?_
  rintro e w3 ⟨rfl, T3, -⟩
  have K4 := hide (use_T ⟨#[97]⟩ T3 (by simp))
  rw [u3] at K4
  clear T3 K3
  go_wp2_with fail
  refine (unhide K4).mono ?_
  rintro e w4 ⟨rfl, T4, -⟩
  have K5 := hide (use_T ⟨#[99]⟩ T4 (by simp))
  rw [u4] at K5
  clear T4 K4
  go_wp2_with fail
  refine (unhide K5).mono ?_
  rintro e w5 ⟨rfl, T5, -⟩
  have K6 := hide (len_T T5)
  have K7 := hide (has_T ⟨#[97]⟩ T5 (by simp))
  rw [u5] at K7
  clear T5 K5
  go_wp2_with fail
  refine (unhide K6).mono ?_
  rintro e w6 ⟨rfl, rfl⟩
  go_wp2_with fail
  refine (unhide K7).mono ?_
  rintro e w7 ⟨rfl, T7, -⟩
  have K8 := hide (has_T ⟨#[98]⟩ T7 (by simp))
  rw [u6] at K8
  clear T7 K7 K6
  go_wp2_with fail
  refine (unhide K8).mono ?_
  rintro e w8 ⟨rfl, T8, -⟩
  have HB := hide T8.be
  clear T8 K8
  go_wp2_with fail
  go_ret
  exact ⟨rfl, unhide HB⟩
end Go.Proofs.Ytjcjibjagjiedaa
