/-
  Both side by side: the calls that tell something, and Poll.
-/
import Derived.Test.YtkgcgfnleabkdaaPlaysA
namespace Go.Proofs.Ytkgcgfnleabkdaa
open Go.RowKit
section
variable {h : Nat} {w : World} {n rb rc : Nat} {p : Addr} {u : Value} {O : Obj} {W : World} {ss ssG ssR : List Int} {ws wsG wsR : List Wt}

theorem ps_len {ps : List Pr} (e : wsOfP ps = ws) (hl : ws.length ≤ 16) : ps.length ≤ 16 := by rw [← e] at hl; simpa using hl

theorem q_poll (P : PP h w n rb rc p u O W ss ss ws ws) (hl : ws.length ≤ 16) :
    Calls Try.prog 11 #[.pointer (some ⟨h + 1, 0, none⟩)] W fun e w' => ∃ v, e = .returned v ∧ w'.cell? p = some u ∧ Hid (PP h w n rb rc p u O w' ss ss (held ws) ws ∧ w'.ownsRow W.heap.size 2 1 v (free ws).length (ints (idsOf (free ws))) ∧ rb < W.heap.size ∧ rc < W.heap.size) := by
  refine (poll_all h (h + 1) h n ss ws W P.gr hl).mono ?_
  rintro e w' ⟨v, rfl, own, G, F⟩
  have P' := P.opG G F
  exact ⟨v, rfl, P'.bx, P', own, P.sz.2⟩
theorem q_rpoll {B : Nat} {v : Value} {xs : List Int} {m : Nat} (P : PP h w n rb rc p u O W ss ss (held ws) ws ∧ W.ownsRow B 2 1 v m (ints xs) ∧ rb < B ∧ rc < B) (hl : ws.length ≤ 16) :
    Calls Try.prog 23 #[.pointer (some ⟨rb, 0, none⟩)] W fun e w' => ∃ v2, e = .returned v2 ∧ w'.cell? p = some u ∧ Hid (PP h w n rb rc p u O w' ss ss (held ws) (held ws) ∧ Rd w' v xs ∧ Rd w' v2 (idsOf (free ws))) := by
  obtain ⟨P, own, h1, h2⟩ := P
  obtain ⟨ps, e, R⟩ := P.rg
  refine (rpoll h rb rc n ss ps W R (ps_len e hl)).mono ?_
  rintro e' w' ⟨v2, rfl, own2, G, F⟩
  have P' := P.opR (ws' := held ws) G (by rw [heldp_ws, e]) F
  rw [e] at own2
  exact ⟨v2, rfl, P'.bx, P', Rd.of_own (own_rfr F own (by decide) (by decide) h1 h2), Rd.of_own own2⟩
theorem q_same64 {v v2 : Value} {xs : List Int} (P : PP h w n rb rc p u O W ssG ssR wsG wsR ∧ Rd W v xs ∧ Rd W v2 xs) (hl : xs.length ≤ 1000) :
    Calls Try.prog 14 #[v, v2] W fun e w' => e = .returned (.bool true) ∧ w'.cell? p = some u ∧ Hid (PP h w n rb rc p u O w' ssG ssR wsG wsR) := by
  refine (same64 v v2 xs xs W P.2.1 P.2.2 hl).mono ?_
  rintro e w' ⟨rfl, B⟩
  have P' := P.1.below B
  exact ⟨by simp, P'.bx, P'⟩
theorem q_same32 {v v2 : Value} {xs : List Int} (P : PP h w n rb rc p u O W ssG ssR wsG wsR ∧ Rd W v xs ∧ Rd W v2 xs) (hl : xs.length ≤ 1000) :
    Calls Try.prog 15 #[v, v2] W fun e w' => e = .returned (.bool true) ∧ w'.cell? p = some u ∧ Hid (PP h w n rb rc p u O w' ssG ssR wsG wsR) := by
  refine (same32 v v2 xs xs W P.2.1 P.2.2 hl).mono ?_
  rintro e w' ⟨rfl, B⟩
  have P' := P.1.below B
  exact ⟨by simp, P'.bx, P'⟩
theorem q_wait (P : PP h w n rb rc p u O W ss ss ws ws) (hl : ws.length ≤ 16) :
    Calls Try.prog 16 #[.pointer (some ⟨h + 1, 0, none⟩)] W fun e w' => ∃ v, e = .returned v ∧ w'.cell? p = some u ∧ Hid (PP h w n rb rc p u O w' ss ss ws ws ∧ Rd w' v (idsOf ws)) := by
  refine (waits_all h (h + 1) h n ss ws W P.gr hl).mono ?_
  rintro e w' ⟨v, rfl, own, B⟩
  have P' := P.below B
  exact ⟨v, rfl, P'.bx, P', Rd.of_own own⟩
theorem q_rwait {v : Value} {xs : List Int} (P : PP h w n rb rc p u O W ss ss ws ws ∧ Rd W v xs) (hl : ws.length ≤ 16) :
    Calls Try.prog 24 #[.pointer (some ⟨rb, 0, none⟩)] W fun e w' => ∃ v2, e = .returned v2 ∧ w'.cell? p = some u ∧ Hid (PP h w n rb rc p u O w' ss ss ws ws ∧ Rd w' v xs ∧ Rd w' v2 (idsOf ws)) := by
  obtain ⟨P, Rv⟩ := P
  obtain ⟨ps, e, R⟩ := P.rg
  refine (rwaiting h rb rc n ss ps W R (ps_len e hl)).mono ?_
  rintro e' w' ⟨v2, rfl, own, B⟩
  rw [e] at own
  have P' := P.below B
  exact ⟨v2, rfl, P'.bx, P', Rv.below B, Rd.of_own own⟩
theorem q_inside (P : PP h w n rb rc p u O W ss ss ws ws) :
    Calls Try.prog 17 #[.pointer (some ⟨h + 1, 0, none⟩)] W fun e w' => ∃ v, e = .returned v ∧ w'.cell? p = some u ∧ Hid (PP h w n rb rc p u O w' ss ss ws ws ∧ Rd w' v (rises (ins ss) 8)) := by
  refine (inside_all h (h + 1) h n ss ws W P.gr).mono ?_
  rintro e w' ⟨v, rfl, own, B⟩
  have P' := P.below B
  exact ⟨v, rfl, P'.bx, P', Rd.of_own own⟩
theorem q_rinside {v : Value} {xs : List Int} (P : PP h w n rb rc p u O W ss ss ws ws ∧ Rd W v xs) :
    Calls Try.prog 25 #[.pointer (some ⟨rb, 0, none⟩)] W fun e w' => ∃ v2, e = .returned v2 ∧ w'.cell? p = some u ∧ Hid (PP h w n rb rc p u O w' ss ss ws ws ∧ Rd w' v xs ∧ Rd w' v2 (rises (ins ss) 8)) := by
  obtain ⟨P, Rv⟩ := P
  obtain ⟨ps, e, R⟩ := P.rg
  refine (rinside h rb rc n ss ps W R).mono ?_
  rintro e' w' ⟨v2, rfl, own, B⟩
  have P' := P.below B
  exact ⟨v2, rfl, P'.bx, P', Rv.below B, Rd.of_own own⟩
theorem q_blocks {d : Int} (P : PP h w n rb rc p u O W ss ss ws ws) (hl : ws.length ≤ 16) :
    Calls Try.prog 13 #[.pointer (some ⟨h + 1, 0, none⟩), .int .i64 d] W fun e w' => ∃ v, e = .returned v ∧ w'.cell? p = some u ∧ Hid (PP h w n rb rc p u O w' ss ss ws ws ∧ Rd w' v (blk ws d)) := by
  refine (blocks_all h (h + 1) h n d ss ws W P.gr hl).mono ?_
  rintro e w' ⟨v, rfl, own, B⟩
  have P' := P.below B
  exact ⟨v, rfl, P'.bx, P', Rd.of_own own⟩
theorem q_rblocks {v : Value} {xs : List Int} {d : Int} (P : PP h w n rb rc p u O W ss ss ws ws ∧ Rd W v xs) (hl : ws.length ≤ 16) :
    Calls Try.prog 26 #[.pointer (some ⟨rb, 0, none⟩), .int .i64 d] W fun e w' => ∃ v2, e = .returned v2 ∧ w'.cell? p = some u ∧ Hid (PP h w n rb rc p u O w' ss ss ws ws ∧ Rd w' v xs ∧ Rd w' v2 (blk ws d)) := by
  obtain ⟨P, Rv⟩ := P
  obtain ⟨ps, e, R⟩ := P.rg
  refine (rblocks h rb rc n d ss ps W R (ps_len e hl)).mono ?_
  rintro e' w' ⟨v2, rfl, own, B⟩
  rw [e] at own
  have P' := P.below B
  exact ⟨v2, rfl, P'.bx, P', Rv.below B, Rd.of_own own⟩
theorem blk_le (ws : List Wt) (d : Int) : (blk ws d).length ≤ 1000 := by
  unfold blk
  split
  · have := rises_len ‹Wt›.on 8; omega
  · simp
theorem ids_le {ws : List Wt} (h : ws.length ≤ 16) : (idsOf ws).length ≤ 1000 := by simp; omega
theorem fids_le {ws : List Wt} (h : ws.length ≤ 16) : (idsOf (free ws)).length ≤ 1000 := by have := free_len ws; simp; omega
theorem rises_le (f : Nat → Bool) : (rises f 8).length ≤ 1000 := by have := rises_len f 8; omega
end
end Go.Proofs.Ytkgcgfnleabkdaa
