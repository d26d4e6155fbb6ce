/-
  The contracts of Find, Up, Text, file and Left.
-/
import Derived.Test.YtlngeaacjbdmhaaGet
namespace Go.Proofs.Ytlngeaacjbdmhaa
open Go.RowKit Go.Maps

section
variable {lo N : Nat} {W W' : World} {t : Nat} {T : Tr} {q p : Nat} {nb : Int → Nat} {ev : Int → Value} {B : Nat}
theorem below_n (W : World) (k : Nat) : Below W.heap.size W (W.drewN k) := below_dn (Below.refl _ W) k
set_option maxHeartbeats 1000000 in
theorem tfind_any (h : TrI lo N W t T q p nb ev) (hw : Wk B T) (hB : B ≤ 900) {n : Int} (hn : (kl n).wf = true) (s : ByteArray) :
    Calls Try.prog 15 #[P0 t, I n, .string s] W fun e w' => e = .returned (.tuple #[I ((T.findN n s).getD 0), .bool (T.findN n s).isSome]) ∧ Below W.heap.size W w' := by
  cases hx : T.nd n with
  | none =>
    have H := hide (dir_none h hn hx)
    have hd : T.findN n s = none := by simp [Tr.findN, Tr.dir, hx]
    rw [hd]
    clear h hx
    go_enter Try.func15, Try.ntmps15
    go_wp2_with (go_at_call 24; refine (unhide H).mono ?_; rintro e w' ⟨rfl, k, rfl⟩)
    go_ret2
    exact ⟨rfl, below_n _ _⟩
  | some x =>
    have H0 := dir_some h hn hx
    by_cases hk : x.kind = 1
    · have hd : T.findN n s = getE x.ins s := by simp [Tr.findN, Tr.dir, hx, hk]
      rw [hd]
      simp only [hk, decide_true] at H0
      have H := hide H0
      have H2 : Hid (∀ k, Calls Try.prog 30 #[P0 (nb n), .string s] (W.drewN k) fun e w' => e = .returned (.tuple #[I ((getE x.ins s).getD 0), .bool (getE x.ins s).isSome]) ∧ Below W.heap.size W w') := fun k =>
        (find_any (lo := lo) (W := W.drewN k) (h.hn n x hx).1 ((h.hn n x hx).2.below (below_n W k)) (hw.srt n x hx) (by have := (hw.bnd n x hx).2.2; omega) s).mono fun e w' ⟨h1, h2⟩ => ⟨h1, (below_n W k).trans h2⟩
      clear h hx H0 hd hw
      go_enter Try.func15, Try.ntmps15
      go_wp2_with (first | (go_at_call 24; refine (unhide H).mono ?_; rintro e w' ⟨rfl, k, rfl⟩) | (go_at_call 30; refine (unhide H2 _).mono ?_; rintro e w' ⟨rfl, hB2⟩))
      go_ret2
      exact ⟨rfl, hB2⟩
    · have hd : T.findN n s = none := by simp [Tr.findN, Tr.dir, hx, hk]
      rw [hd]
      simp only [hk, decide_false] at H0
      have H := hide H0
      clear h hx H0 hd hw
      go_enter Try.func15, Try.ntmps15
      go_wp2_with (go_at_call 24; refine (unhide H).mono ?_; rintro e w' ⟨rfl, k, rfl⟩)
      go_ret2
      exact ⟨rfl, below_n _ _⟩
set_option maxHeartbeats 1000000 in
theorem up_any (h : TrI lo N W t T q p nb ev) {n : Int} (hn : (kl n).wf = true) :
    Calls Try.prog 17 #[P0 t, I n] W fun e w' => e = .returned (I (T.up n)) ∧ ∃ k, w' = W.drewN k := by
  cases hx : T.nd n with
  | none =>
    have H := hide (dir_none h hn hx)
    have hd : T.up n = 0 := by simp [Tr.up, Tr.dir, hx]
    rw [hd]
    clear h hx
    go_enter Try.func17, Try.ntmps17
    go_wp2_with (go_at_call 24; refine (unhide H).mono ?_; rintro e w' ⟨rfl, k, rfl⟩)
    go_ret
    exact ⟨rfl, _, rfl⟩
  | some x =>
    have H0 := dir_some h hn hx
    by_cases hk : x.kind = 1
    · simp only [hk, decide_true] at H0
      have H := hide H0
      have HC : Hid (∀ k, (W.drewN k).cell? ⟨nb n, 4, none⟩ = some (I (x.names : Int)) ∧ (W.drewN k).cell? ⟨nb n, 6, none⟩ = some (I x.up) ∧ ∀ i, (W.drewN k).frozen? ⟨nb n, i, none⟩ = false) := fun k => by
        obtain ⟨-, -, -, -, d4, -, d6, -, -, -, df⟩ := ndcells (h.hn n x hx).1
        exact ⟨d4, d6, df⟩
      have hd : T.up n = if x.names = 0 then n else x.up := by simp [Tr.up, Tr.dir, hx, hk]
      rw [hd]
      obtain ⟨m, hm⟩ : ∃ m, m = x.names := ⟨_, rfl⟩
      rw [← hm] at HC ⊢
      clear h hx H0 hd hm
      by_cases hz : m = 0
      · subst hz
        go_enter Try.func17, Try.ntmps17
        go_wp2_with (go_at_call 24; refine (unhide H).mono ?_; rintro e w' ⟨rfl, k, rfl⟩; obtain ⟨d4, d6, df⟩ := unhide HC k)
        go_ret
        exact ⟨rfl, _, rfl⟩
      · have hz2 : ¬ ((m : Int) = 0) := by omega
        rw [if_neg hz]
        go_enter Try.func17, Try.ntmps17
        go_wp2_with (go_at_call 24; refine (unhide H).mono ?_; rintro e w' ⟨rfl, k, rfl⟩; obtain ⟨d4, d6, df⟩ := unhide HC k)
        go_ret
        exact ⟨rfl, _, rfl⟩
    · have hd : T.up n = 0 := by simp [Tr.up, Tr.dir, hx, hk]
      rw [hd]
      simp only [hk, decide_false] at H0
      have H := hide H0
      clear h hx H0 hd
      go_enter Try.func17, Try.ntmps17
      go_wp2_with (go_at_call 24; refine (unhide H).mono ?_; rintro e w' ⟨rfl, k, rfl⟩)
      go_ret
      exact ⟨rfl, _, rfl⟩
theorem left_any (h : TrI lo N W t T q p nb ev) (hw : Wk B T) (hB : B ≤ 900) : Calls Try.prog 13 #[P0 t] W fun e w' => e = .returned (I T.left) ∧ ∃ k, w' = W.drewN k := by
  obtain ⟨c0, c1, c2, c3, cf⟩ := h.cells
  have hl := fun ty => h.hm.len htN (n := T.made + 1) (by have := hw.made; omega) (fun k _ e => hw.sup k (by simpa using e)) ty
  have hc : cnt (T.made + 1) (fun k => ((if (T.nd (k : Int)).isSome = true then some (P0 (nb (k : Int))) else none)).isSome) = T.live := cnt_congr fun k _ => by cases (T.nd (k : Int)).isSome <;> rfl
  have hl2 := fun ty => h.hm.drew.len htN (n := T.made + 1) (by have := hw.made; omega) (fun k _ e => hw.sup k (by simpa using e)) ty
  rw [hc] at hl hl2
  have hl1 : T.live ≤ 901 := by have := cnt_le (T.made + 1) (fun k => (T.nd (k : Int)).isSome); have := hw.made; simp only [Tr.live]; omega
  have hm := hw.mst
  unfold Tr.left
  obtain ⟨L, hL⟩ : ∃ L, L = T.live := ⟨_, rfl⟩
  obtain ⟨M, hM⟩ : ∃ M, M = T.most := ⟨_, rfl⟩
  rw [← hL] at hl hl2 hl1 ⊢
  rw [← hM] at c0 hm ⊢
  have q1 : (L : Int) ≤ 901 := by omega
  have q2 : (M : Int) ≤ 64 := by omega
  clear h hw hL hM hc
  go_enter Try.func13, Try.ntmps13
  go_wp2_with fail
  go_region
  go_wp2_with fail
  go_ret
  exact ⟨rfl, 1, rfl⟩
end
end Go.Proofs.Ytlngeaacjbdmhaa
