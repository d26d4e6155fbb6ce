/-
  A look goes along: one key, or up to so many.
-/
import Derived.Test.YtbmcnfdciogmjaaBase
namespace Go.Proofs.Ytbmcnfdciogmjaa
open Go.RowKit
attribute [local go_sem ↓] Go.wp_at_zero Go.wp_at_succ


/-- Where a look stands, its steps, whether it is over, and what it found. -/
structure St where
  x : E
  st : Int
  ov : Bool
  fd : Bool
  v : Int
/-- Up to m keys further along P, from x. -/
def go (key : ByteArray) : Nat → E → List E → Int → St
  | 0, x, _, st => ⟨x, st, false, false, 0⟩
  | _ + 1, x, [], st => ⟨x, st + 1, true, false, 0⟩
  | m + 1, x, y :: P, st => if y.key = key then ⟨x, st + 1, true, true, y.val⟩ else go key m y P (st + 1)
abbrev LkS (W : World) (b : Nat) (key : ByteArray) (s : St) : Prop := Lk W b key s.x s.st s.ov s.fd s.v
abbrev lkS (b : Nat) : List (Nat × Nat) := [(b, 1), (b, 2), (b, 3), (b, 4), (b, 5)]
theorem lkS_ne {b k i : Nat} (h : k ≠ b) : (k, i) ∉ lkS b := by simp [h]

theorem str_ne {a b : ByteArray} (h : ¬ a = b) : (a.toList == b.toList) = false := by
  rw [beq_eq_false_iff_ne]
  intro e
  rw [ByteArray.toList_eq, ByteArray.toList_eq] at e
  exact h (ByteArray.ext (Array.ext' e))
section
variable {W : World} {b : Nat} {key : ByteArray} {x : E} {st : Int} {ov fd : Bool} {v : Int}
theorem Lk.setSt (h : Lk W b key x st ov fd v) (t : Int) : Lk (W.setCell ⟨b, 2, none⟩ (.int .i64 t)) b key x t ov fd v := ⟨heap_set h.hb 2 _⟩
theorem Lk.setAt (h : Lk W b key x st ov fd v) (y : E) : Lk (W.setCell ⟨b, 1, none⟩ (.pointer (some ⟨y.blk, y.off, none⟩))) b key y st ov fd v := ⟨heap_set h.hb 1 _⟩
theorem Lk.setOv (h : Lk W b key x st ov fd v) (t : Bool) : Lk (W.setCell ⟨b, 3, none⟩ (.bool t)) b key x st t fd v := ⟨heap_set h.hb 3 _⟩
theorem Lk.setFd (h : Lk W b key x st ov fd v) (t : Bool) : Lk (W.setCell ⟨b, 4, none⟩ (.bool t)) b key x st ov t v := ⟨heap_set h.hb 4 _⟩
theorem Lk.setV (h : Lk W b key x st ov fd v) (t : Int) : Lk (W.setCell ⟨b, 5, none⟩ (.int .i64 t)) b key x st ov fd t := ⟨heap_set h.hb 5 _⟩
theorem Lk.dn (h : Lk W b key x st ov fd v) (n : Nat) : Lk (W.drewN n) b key x st ov fd v := ⟨h.hb⟩
end

set_option maxHeartbeats 400000 in
theorem along_over (b : Nat) (key : ByteArray) (x : E) (st : Int) (fd : Bool) (v m : Int) (w : World) (h : Lk w b key x st true fd v) :
    Calls Try.prog 32 #[.pointer (some ⟨b, 0, none⟩), .int .i64 m] w fun e w' => e = .returned (.tuple #[]) ∧ w' = w := by
  obtain ⟨h0, h1, h2, h3, h4, h5, hf⟩ := h.cells
  clear h h0 h1 h2 h4 h5 hf
  go_enter Try.func32, Try.ntmps32
  go_wp2_with fail
  go_step3
  go_wp2_with fail
  rw [Exit.noGoto_ret]
  refine bodyPost_ret (results_none rfl _ _ _) rfl ?_
  exact ⟨rfl, rfl⟩
set_option maxHeartbeats 1000000 in
theorem along_any (b : Nat) (key : ByteArray) (x : E) (P : List E) (st : Int) (m : Nat) (w : World) (h : Lk w b key x st false false 0) (hP : Path w (x :: P)) (hne : ∀ y ∈ x :: P, y.blk ≠ b) (s0 : 0 ≤ st) (s1 : st + m ≤ 1000000) :
    Calls Try.prog 32 #[.pointer (some ⟨b, 0, none⟩), .int .i64 (m : Int)] w fun e w' => e = .returned (.tuple #[]) ∧ LkS w' b key (go key m x P st) ∧ Fr (lkS b) w w' := by
  obtain ⟨h0, h1, h2, h3, h4, h5, hf⟩ := h.cells
  have A0 := hide h
  have A1 := hide hP
  have A2 := hide hne
  clear h hP hne h0 h1 h2 h4 h5 hf
  go_enter Try.func32, Try.ntmps32
  go_wp2_with fail
  go_step3
  go_wp2_with fail
  go_step3
  go_wp2_with fail
  go_loopw [10] (fun i wr => ∃ (k : Nat) (y : E) (R : List E), k ≤ m ∧ i = .int .i64 (k : Int) ∧ Hid (Lk wr b key y (st + k) false false 0) ∧ Hid (go key m x P st = go key (m - k) y R (st + k)) ∧ Hid (Path wr (y :: R)) ∧ Hid (∀ z ∈ y :: R, z.blk ≠ b) ∧ Hid (Fr (lkS b) w wr)) (fun i _ => match i with | .int _ x => m - x.toNat | _ => 0)
  case atStart => exact ⟨0, x, P, by omega, rfl, hide (by simpa using unhide A0), hide (by simp), A1, A2, hide (Fr.refl _ _)⟩
  case round =>
    obtain ⟨k, y, R, hk, rfl, B0, B1, B2, B3, B4⟩ := hrel
    clear A0 A1 A2 h3
    obtain ⟨h0, h1, h2, h3, h4, h5, hf⟩ := (unhide B0).cells
    by_cases hk2 : k < m
    · have q : (k : Int) < (m : Int) := by omega
      have n1 : y.blk ≠ b := unhide B3 y (by simp)
      obtain ⟨m3, k0, k1, k2, kz⟩ := (unhide B2).1
      clear m3 k0 k1 kz
      have r1 : st + (k : Int) < 1000000 := by omega
      have r0 : 0 ≤ st + (k : Int) := by omega
      cases R with
      | nil =>
        simp only [nx] at k2
        generalize hst : st + (k : Int) = sk at *
        replace hst := hide hst
        go_wp2_with fail
        rw [Exit.noGoto_normal]
        go_end0
        have e : m - k = (m - k - 1) + 1 := by omega
        rw [e, go] at B1
        rw [unhide B1]
        exact ⟨rfl, ((unhide B0).setSt _).setOv _, ((unhide B4).set (by simp) _).set (by simp) _⟩
      | cons z R =>
        simp only [nx] at k2
        have n2 : z.blk ≠ b := unhide B3 z (by simp)
        obtain ⟨m3, z0, z1, z2, kz⟩ := (unhide B2).2.1
        clear m3 z2 kz
        generalize hst : st + (k : Int) = sk at *
        replace hst := hide hst
        have e : m - k = (m - k - 1) + 1 := by omega
        rw [e, go] at B1
        by_cases hz : z.key = key
        · rw [if_pos hz] at B1
          rw [hz] at z0
          clear hz e
          go_wp2_with fail
          go_quiet (fail)
          go_wp2_with fail
          rw [Exit.noGoto_normal]
          go_end0
          rw [unhide B1]
          exact ⟨rfl, (((((unhide B0).setSt _).dn nq).setOv _).setFd _).setV _, ((((((unhide B4).set (by simp) _).dn nq).set (by simp) _).set (by simp) _).set (by simp) _)⟩
        · rw [if_neg hz] at B1
          clear e
          have hz2 := str_ne hz
          go_wp2_with fail
          go_quiet (fail)
          go_wp2_with fail
          have F := (((Fr.refl (lkS b) wr).set (b := b) (i := 2) (by simp) (Value.int IntKind.i64 (sk + 1))).dn nq).set (b := b) (i := 1) (by simp) (Value.pointer (some { block := z.blk, off := z.off }))
          have hst := unhide hst
          refine ⟨⟨k + 1, z, R, by omega, rfl, ?_, ?_, ?_, ?_, ?_⟩, by simp; omega⟩
          · have := (((unhide B0).setSt (sk + 1)).dn nq).setAt z
            rw [show st + ((k + 1 : Nat) : Int) = sk + 1 by omega]; exact hide this
          · rw [show st + ((k + 1 : Nat) : Int) = sk + 1 by omega, show m - (k + 1) = m - k - 1 by omega]; exact B1
          · exact hide ((unhide B2).2.fr F fun y hy j _ => lkS_ne (unhide B3 y (by simp [List.mem_cons.1 hy])))
          · exact hide fun y hy => unhide B3 y (List.mem_cons_of_mem _ hy)
          · exact hide ((unhide B4).trans F)
    · have q : ¬ (k : Int) < (m : Int) := by omega
      go_wp2_with fail
      go_end0
      have e : m - k = 0 := by omega
      rw [e, go] at B1
      rw [unhide B1]
      exact ⟨rfl, unhide B0, unhide B4⟩
end Go.Proofs.Ytbmcnfdciogmjaa
