/-
  The document's pool: the contracts of used, Used, Size, Left, New.
-/
import Derived.Test.YtaogokgklkdmpaaRefA
namespace Go.Proofs.Ytaogokgklkdmpaa
open Go.RowKit Go.Maps

theorem RF.cells {base lim : Nat} {W : World} {c : Nat} {bv : Value} {x : F} (h : RF base lim W c bv x) : W.cell? ⟨c, 0, none⟩ = some bv ∧ (∀ k, k < 64 → W.cell? ⟨c, 1 + k, none⟩ = some (.bool (x.has k))) ∧ ∀ i, W.frozen? ⟨c, i, none⟩ = false := by
  refine ⟨by rw [cell_of h.hc]; rfl, fun k hk => ?_, frozen_of h.hc⟩
  rw [cell_of h.hc]
  simp only [List.getElem?_toArray]
  rw [Nat.add_comm, List.getElem?_cons_succ, bools_get x.has hk]
theorem Sget_at {s : S} {f : Int} {x : F} (h : s.get f = some x) : s.fs[f.toNat - 1]? = some (some x) := (S.get_at h).2
set_option maxHeartbeats 1000000 in
theorem rused0 {base lim : Nat} {W : World} {c : Nat} {bv : Value} {x : F} (h : RF base lim W c bv x) : Calls Try.prog 37 #[P0 c] W fun e w' => e = .returned (I x.used) ∧ w' = W := by
  obtain ⟨c0, ch, cf⟩ := h.cells
  replace ch := hide ch
  clear c0 cf h
  go_enter Try.func37, Try.ntmps37
  go_wp2_with fail
  go_loopw [3, 4] (fun v i wr => ∃ (k N : Nat), k ≤ 64 ∧ i = I (k : Int) ∧ v = I (N : Int) ∧ N ≤ k ∧ Hid (N = cnt k x.has) ∧ wr = W) (fun _ i _ => 64 - (intOf i).toNat)
  case atStart => exact ⟨0, 0, by omega, rfl, rfl, by omega, hide rfl, rfl⟩
  case round =>
    obtain ⟨k, N, hk, rfl, rfl, hNk, hN, rfl⟩ := hrel
    by_cases hk4 : k < 64
    · have z1 : (k : Int) < 64 := by omega
      have z0 : (0 : Int) ≤ (k : Int) := by omega
      have hc := unhide ch k hk4
      cases hx : x.has k with
      | true =>
        rw [hx] at hc
        go_wp2_with fail
        refine ⟨⟨k + 1, N + 1, by omega, rfl, rfl, by omega, hide ?_, trivial⟩, by simp [intOf]; omega⟩
        rw [cnt_succ, hx, unhide hN]
        simp
      | false =>
        rw [hx] at hc
        go_wp2_with fail
        refine ⟨⟨k + 1, N, by omega, rfl, rfl, by omega, hide ?_, trivial⟩, by simp [intOf]; omega⟩
        rw [cnt_succ, hx, unhide hN]
        simp
    · obtain rfl : k = 64 := by omega
      have z1 : ¬ ((64 : Nat) : Int) < 64 := by omega
      go_wp2_with fail
      go_ret
      refine ⟨?_, rfl⟩
      rw [show x.used = N from (unhide hN).symm]
      rfl
set_option maxHeartbeats 1000000 in
theorem rused_any {base lim n : Nat} {W : World} {q : Nat} {s : S} (h : Rq base lim n W q s) (f : Int) (hf : (kl f).wf = true) (hl : s.fs.length ≤ 1000000) :
    Calls Try.prog 28 #[P0 q, I f] W fun e w' => e = .returned (I (usedO (s.get f))) ∧ w' = W := by
  obtain ⟨Lv, fb, bv, h⟩ := h
  cases e : s.get f with
  | none =>
    have he : ofV s fb f = .pointer none := by simp only [ofV, e]
    go_enter Try.func28, Try.ntmps28
    go_wp2_with fail
    refine (of_any h f hf hl).mono ?_
    rintro e w1 ⟨rfl, rfl⟩
    rw [he]
    go_wp2_with fail
    go_ret
    exact ⟨rfl, rfl⟩
  | some x =>
    have he : ofV s fb f = P0 (fb (f.toNat - 1)) := by simp only [ofV, e]
    have hx := h.hx _ x (Sget_at e)
    go_enter Try.func28, Try.ntmps28
    go_wp2_with fail
    refine (of_any h f hf hl).mono ?_
    rintro e w1 ⟨rfl, rfl⟩
    rw [he]
    go_wp2_with fail
    refine (rused0 hx).mono ?_
    rintro e w2 ⟨rfl, rfl⟩
    go_wp2_with fail
    go_ret
    exact ⟨rfl, rfl⟩
set_option maxHeartbeats 1000000 in
theorem rsize_any {base lim n : Nat} {W : World} {q : Nat} {s : S} (h : Rq base lim n W q s) (f : Int) (hf : (kl f).wf = true) (hl : s.fs.length ≤ 1000000) :
    Calls Try.prog 27 #[P0 q, I f] W fun e w' => e = .returned (I (sizeO (s.get f))) ∧ w' = W := by
  obtain ⟨Lv, fb, bv, h⟩ := h
  cases e : s.get f with
  | none =>
    have he : ofV s fb f = .pointer none := by simp only [ofV, e]
    go_enter Try.func27, Try.ntmps27
    go_wp2_with fail
    refine (of_any h f hf hl).mono ?_
    rintro e w1 ⟨rfl, rfl⟩
    rw [he]
    go_wp2_with fail
    go_ret
    exact ⟨rfl, rfl⟩
  | some x =>
    have he : ofV s fb f = P0 (fb (f.toNat - 1)) := by simp only [ofV, e]
    have hx := h.hx _ x (Sget_at e)
    obtain ⟨c0, _, _⟩ := hx.cells
    obtain ⟨a, cap, hb, _⟩ := own_val hx.hb
    rw [hb] at c0
    clear hb
    go_enter Try.func27, Try.ntmps27
    go_wp2_with fail
    refine (of_any h f hf hl).mono ?_
    rintro e w1 ⟨rfl, rfl⟩
    rw [he]
    go_wp2_with fail
    go_ret
    exact ⟨rfl, rfl⟩
set_option maxHeartbeats 1000000 in
theorem rleft_any {base lim n : Nat} {W : World} {q : Nat} {s : S} (h : Rq base lim n W q s) (ht : s.left + total s.fs = n) (hn : n ≤ 256) (hl : s.fs.length ≤ 1000000) :
    Calls Try.prog 29 #[P0 q] W fun e w' => e = .returned (I s.left) ∧ w' = W := by
  obtain ⟨Lv, fb, bv, h⟩ := h
  obtain ⟨c0, c1, cf⟩ := h.cells
  obtain ⟨a, cap, hLv, hcap⟩ := own_val h.hL
  obtain ⟨L, hL⟩ : ∃ L : Nat, L = s.fs.length := ⟨_, rfl⟩
  rw [← hL] at hLv hl
  rw [hLv] at c1
  have H := hide h
  have n1 : (n : Int) ≤ 256 := by omega
  have L1 : (L : Int) ≤ 1000000 := by omega
  replace hL := hide hL
  replace hLv := hide hLv
  replace ht := hide ht
  clear h cf
  go_enter Try.func29, Try.ntmps29
  go_wp2_with fail
  go_loopw [3, 4] (fun v i wr => ∃ (k y : Nat), k ≤ L ∧ i = I (k : Int) ∧ v = I (y : Int) ∧ y ≤ n ∧ Hid (y + total (s.fs.take k) = n) ∧ wr = W) (fun _ i _ => L - (intOf i).toNat)
  case atStart => exact ⟨0, n, by omega, rfl, rfl, by omega, hide (by simp [total]), rfl⟩
  case round =>
    obtain ⟨k, y, hk, rfl, rfl, hyn, hy, rfl⟩ := hrel
    by_cases hkL : k < L
    · have z1 : (k : Int) < (L : Int) := by omega
      have z0 : (0 : Int) ≤ (k : Int) := by omega
      have hkf : k < s.fs.length := by rw [← unhide hL]; exact hkL
      obtain ⟨o, ho⟩ : ∃ o, s.fs[k]? = some o := ⟨_, List.getElem?_eq_getElem hkf⟩
      obtain ⟨g, cap2, e1, _, hc, _⟩ := own_cell (unhide H).hL hkf
      rw [ptrs_get, ho, Option.map_some] at hc
      rw [unhide hLv, ← unhide hL] at e1
      cases e1
      have htk := total_take s.fs k o ho
      have hle : total (s.fs.take (k + 1)) ≤ n := by
        have h1 := unhide ht
        have : total (s.fs.take (k + 1)) ≤ total s.fs := by
          have h2 : s.fs = s.fs.take (k + 1) ++ s.fs.drop (k + 1) := (List.take_append_drop _ _).symm
          have h3 : ∀ a b : List (Option F), total a ≤ total (a ++ b) := by
            intro a b
            induction a with
            | nil => simp [total]
            | cons x a ih => simp [total]; omega
          conv => rhs; rw [h2]
          exact h3 _ _
        omega
      cases o with
      | none =>
        simp only [ptrV] at hc
        replace hle := hide hle
        replace htk := hide htk
        go_wp2_with fail
        refine ⟨⟨k + 1, y, by omega, rfl, rfl, by omega, hide ?_, trivial⟩, by simp [intOf]; omega⟩
        rw [unhide htk]
        exact unhide hy
      | some x =>
        simp only [ptrV] at hc
        have hx := (unhide H).hx k x ho
        obtain ⟨u, hu⟩ : ∃ u : Nat, u = x.used := ⟨_, rfl⟩
        have hyu : u ≤ y := by
          have := unhide hy
          simp only [usedO, ← hu] at htk
          omega
        have hyu1 : (u : Int) ≤ (y : Int) := by omega
        have y256 : (y : Int) ≤ 256 := by omega
        replace hle := hide hle
        replace htk := hide htk
        replace hx := hide hx
        replace hu := hide hu
        go_wp2_with fail
        refine (rused0 (unhide hx)).mono ?_
        rintro e w2 ⟨rfl, rfl⟩
        rw [← unhide hu]
        go_wp2_with fail
        refine ⟨⟨k + 1, y - u, by omega, rfl, congrArg I (by omega), by omega, hide ?_, trivial⟩, by simp [intOf]; omega⟩
        rw [unhide htk]
        simp only [usedO, ← unhide hu]
        have := unhide hy
        omega
    · obtain rfl : k = L := by omega
      have z1 : ¬ (k : Int) < (k : Int) := by omega
      go_wp2_with fail
      go_ret
      have e : y = s.left := by
        have h1 := unhide hy
        rw [List.take_of_length_le (by rw [← unhide hL]; exact Nat.le_refl _)] at h1
        have := unhide ht
        omega
      rw [e]
      exact ⟨rfl, rfl⟩
theorem rnew_any (n : Nat) (l : Nat) (w : World) : Calls Try.prog 18 #[I (n : Int)] w fun e w' => e = .returned (P0 w.heap.size) ∧ Rq w.heap.size w'.heap.size n w' w.heap.size ⟨l, []⟩ ∧ Below w.heap.size w w' := by
  go_enter Try.func18, Try.ntmps18
  go_wp2_with fail
  go_ret
  refine ⟨rfl, ?_, (Below.refl _ w).alloc (Nat.le_refl _) _⟩
  have hno : ∀ (i : Nat) (x : F), (⟨l, []⟩ : S).fs[i]? = some (some x) → False := fun i x h => by simp at h
  exact ⟨.slice none 0 0, fun _ => 0, fun _ => .slice none 0 0, heap_alloc_new _ _, World.ownsRow_nil _ _ _ _, fun i x h => (hno i x h).elim, fun i _ x _ h => (hno i x h).elim, ⟨Nat.le_refl _, by simp⟩, fun g hg => (by cases hg), ⟨by simp, Nat.le_refl _⟩⟩
end Go.Proofs.Ytaogokgklkdmpaa
