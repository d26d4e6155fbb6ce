/-
  The contract of Join, and what it leaves.
-/
import Derived.Test.YtlngeaacjbdmhaaGreatQp10
namespace Go.Proofs.YtlngeaacjbdmhaaGreat
open Go.RowKit Go.Maps
section
variable {lo N : Nat} {W W' : World} {t : Nat} {T : Tr} {q p : Nat} {nb : Int → Nat} {ev : Int → Value} {B : Nat}
set_option maxRecDepth 100000 in
set_option maxHeartbeats 1000000 in
theorem join_any (h : TrI lo N W t T q p nb ev) (hw : Wk B T) (hB : B ≤ 890) {dir n : Int} (hn : (kl dir).wf = true) (hnn : (kl n).wf = true) (s : ByteArray) :
    Calls Tryz.prog 66 #[P0 t, I dir, .string s, I n] W fun e w' => e = .returned (I (T.joinE dir s n)) ∧ Tp lo N w' t (T.join dir s n) ∧ Tx lo W w' := by
  have hlo := h.bd.2.2.1
  have HTp : Hid (∀ w, Below W.heap.size W w → Tp lo N w t T ∧ Tx lo W w) := fun w hb => ⟨⟨q, p, nb, ev, h.below hb⟩, .of_below hb hlo⟩
  have HD := hide (dirB h hn)
  have HR := hide (right_any s)
  have hb0 := hide (Below.refl W.heap.size W)
  have HC : Hid (∀ w, Below W.heap.size W w → w.cell? ⟨t, 2, none⟩ = some (.map (some q)) ∧ (Instr.lookup 123 (.map (some q)) (I n) true).run Tryz.prog w = .ok (.tuple #[(if (T.nd n).isSome = true then P0 (nb n) else .pointer none), .bool (T.nd n).isSome]) w) := fun w hb => ⟨(h.below hb).cells.2.2.1, (h.below hb).look_ok hnn⟩
  obtain ⟨rt, hrt⟩ : ∃ rt, rt = right s := ⟨_, rfl⟩
  rw [← hrt] at HR
  have no : T.joinE dir s n ≠ 0 → T.join dir s n = T := fun hE => by rw [Tr.join, if_neg hE]
  cases hx : T.dir dir with
  | none =>
    have e1 : T.joinE dir s n = 1 := by simp [Tr.joinE, hx]
    rw [no (by rw [e1]; decide), e1]
    rw [hx] at HD
    obtain ⟨pv, hpv⟩ : ∃ pv, pv = (if (T.nd dir).isSome = true then P0 (nb dir) else Value.pointer none) := ⟨_, rfl⟩
    obtain ⟨pn, hpn⟩ : ∃ pn, pn = (if (T.nd n).isSome = true then P0 (nb n) else Value.pointer none) := ⟨_, rfl⟩
    obtain ⟨lv, hlv⟩ : ∃ lv, lv = (T.nd n).isSome := ⟨_, rfl⟩
    rw [← hpv] at HD
    rw [← hpn, ← hlv] at HC
    clear h hw hx e1 hpv hpn hlv no
    go_enter Tryz.func66, Tryz.ntmps66
    go_wp2_with (go_at_call 116; refine (unhide HD _ (unhide hb0)).mono ?_; rintro e w1 ⟨rfl, hb1⟩; obtain ⟨f1, f2⟩ := unhide HC w1 (unhide hb1))
    go_ret
    exact ⟨rfl, unhide HTp _ (unhide hb1)⟩
  | some d =>
    obtain ⟨hd, hk1⟩ := Tr.dir_some.1 hx
    rw [hx, hd] at HD
    simp only [Option.isSome_some, if_true] at HD
    cases hy : T.nd n with
    | none =>
      have e1 : T.joinE dir s n = 1 := by simp [Tr.joinE, hx, hy]
      rw [no (by rw [e1]; decide), e1]
      rw [hy] at HC
      simp only [Option.isSome_none, Bool.false_eq_true, if_false] at HC
      obtain ⟨b, hbb⟩ : ∃ b, b = nb dir := ⟨_, rfl⟩
      rw [← hbb] at HD
      clear h hw hx e1 hbb no hd hk1 hy
      go_enter Tryz.func66, Tryz.ntmps66
      go_wp2_with (go_at_call 116; refine (unhide HD _ (unhide hb0)).mono ?_; rintro e w1 ⟨rfl, hb1⟩; obtain ⟨f1, f2⟩ := unhide HC w1 (unhide hb1))
      go_ret
      exact ⟨rfl, unhide HTp _ (unhide hb1)⟩
    | some x =>
      rw [hy] at HC
      simp only [Option.isSome_some, if_true] at HC
      have HC2 : Hid (∀ w, Below W.heap.size W w → w.cell? ⟨nb n, 0, none⟩ = some (I x.kind)) := fun w hb => by
        obtain ⟨d0, -⟩ := ndcells ((h.below hb).hn n x hy).1
        exact d0
      have HRF : Hid (∀ w, Below W.heap.size W w → Calls Tryz.prog 123 #[P0 (nb dir), .string s] w fun e w' => e = .returned (I (refusesE d s)) ∧ Hid (Below W.heap.size W w')) := fun w hb =>
        (refuses_any ((h.below hb).hn dir d hd).1 ((h.below hb).hn dir d hd).2 (hw.srt dir d hd) (by have := (hw.bnd dir d hd).2.2; omega) s).mono fun e w' ⟨h1, h2⟩ => ⟨h1, hb.trans (h2.mono hb.size)⟩
      have HLK : Hid (∀ w, Below W.heap.size W w → Calls Tryz.prog 108 #[P0 t, P0 (nb n)] w fun e w' => e = .returned (I (T.links x : Nat)) ∧ Hid (Below W.heap.size W w')) := fun w hb =>
        (links_any (h.below hb) hw (by omega) hy).mono fun e w' ⟨h1, h2⟩ => ⟨h1, hb.trans (h2.mono hb.size)⟩
      have HG : Hid (∀ w, Below W.heap.size W w → x.kind ≠ 1 → right s = true → Calls Tryz.prog 124 #[P0 t, I dir, .string s, I n] w fun e w' => e = .returned (.tuple #[]) ∧ Hid (Tp lo N w' t (T.give dir s n) ∧ Tx lo W w')) := fun w hb hk hr => by
        have hdn : dir ≠ n := fun e => by subst e; rw [hd] at hy; cases hy; exact hk hk1
        refine (give_any (h.below hb) hn hnn hd hy hdn (hw.srt dir d hd) (by have := (hw.bnd dir d hd).2.2; omega) (by have := (hw.bnd n x hy).1; omega) s (by have := right_size hr; omega)).mono ?_
        rintro e w' ⟨h1, ev', h2, h3⟩
        exact ⟨h1, ⟨q, p, nb, ev', h2⟩, (Tx.of_below hb hlo).trans h3⟩
      have hE : T.joinE dir s n = if x.kind ≠ 1 ∧ right s = true then (if refusesE d s ≠ 0 then refusesE d s else if T.links x = 16 then 44 else 0) else 1 := by simp [Tr.joinE, hx, hy]
      have yes : T.joinE dir s n = 0 → T.join dir s n = T.give dir s n := fun e => by rw [Tr.join, if_pos e]
      obtain ⟨rf, hrf⟩ : ∃ rf, rf = refusesE d s := ⟨_, rfl⟩
      obtain ⟨lk, hlk⟩ : ∃ lk, lk = T.links x := ⟨_, rfl⟩
      obtain ⟨E, hEE⟩ : ∃ E, E = T.joinE dir s n := ⟨_, rfl⟩
      obtain ⟨b, hbb⟩ : ∃ b, b = nb dir := ⟨_, rfl⟩
      obtain ⟨bn, hbn⟩ : ∃ bn, bn = nb n := ⟨_, rfl⟩
      obtain ⟨kd, hkd⟩ : ∃ kd, kd = x.kind := ⟨_, rfl⟩
      rw [← hrf] at HRF hE
      rw [← hlk] at HLK hE
      rw [← hEE] at hE no yes ⊢
      rw [← hrt] at hE HG
      rw [← hbb] at HD HRF
      rw [← hbn] at HC HC2 HLK
      rw [← hkd] at HC2 HG hE
      clear h hw hx hd hk1 hy hrf hlk hEE hbb hbn hkd hrt
      by_cases k1 : kd = 1
      · subst k1
        simp at hE
        subst hE
        rw [no (by decide)]
        clear HG yes no
        go_enter Tryz.func66, Tryz.ntmps66
        go_wp2_with (go_at_call 116; refine (unhide HD _ (unhide hb0)).mono ?_; rintro e w1 ⟨rfl, hb1⟩; obtain ⟨f1, f2⟩ := unhide HC w1 (unhide hb1); have f3 := unhide HC2 w1 (unhide hb1))
        go_ret
        exact ⟨rfl, unhide HTp _ (unhide hb1)⟩
      · cases rt with
        | false =>
          simp at hE
          subst hE
          rw [no (by decide)]
          clear HG yes no
          go_enter Tryz.func66, Tryz.ntmps66
          go_wp2_with (first | (go_at_call 116; refine (unhide HD _ (unhide hb0)).mono ?_; rintro e w1 ⟨rfl, hb1⟩; obtain ⟨f1, f2⟩ := unhide HC w1 (unhide hb1); have f3 := unhide HC2 w1 (unhide hb1)) | (go_at_call 121; refine (unhide HR _).mono ?_; rintro e w' ⟨rfl, rfl⟩))
          go_ret
          exact ⟨rfl, unhide HTp _ (unhide hb1)⟩
        | true =>
          simp only [ne_eq, k1, not_false_eq_true, and_self, if_true] at hE
          by_cases h3 : rf = 0
          · subst h3
            simp only [not_true_eq_false, if_false] at hE
            by_cases h5 : lk = 16
            · subst h5
              simp at hE
              subst hE
              rw [no (by decide)]
              clear HG yes no
              go_enter Tryz.func66, Tryz.ntmps66
              go_wp2_with (first | (go_at_call 116; refine (unhide HD _ (unhide hb0)).mono ?_; rintro e w1 ⟨rfl, hb1⟩; obtain ⟨f1, f2⟩ := unhide HC w1 (unhide hb1); have f3 := unhide HC2 w1 (unhide hb1)) | (go_at_call 121; refine (unhide HR _).mono ?_; rintro e w' ⟨rfl, rfl⟩) | (go_at_call 123; refine (unhide HRF _ (unhide hb1)).mono ?_; rintro e w2 ⟨rfl, hb2⟩) | (go_at_call 108; refine (unhide HLK _ (unhide hb2)).mono ?_; rintro e w3 ⟨rfl, hb3⟩))
              go_ret
              exact ⟨rfl, unhide HTp _ (unhide hb3)⟩
            · have h5i : ¬ ((lk : Int) = 16) := by omega
              rw [if_neg h5] at hE
              subst hE
              rw [yes rfl]
              have HG2 := hide (fun w hb => unhide HG w hb k1 rfl)
              clear HG yes no
              go_enter Tryz.func66, Tryz.ntmps66
              go_wp2_with (first | (go_at_call 116; refine (unhide HD _ (unhide hb0)).mono ?_; rintro e w1 ⟨rfl, hb1⟩; obtain ⟨f1, f2⟩ := unhide HC w1 (unhide hb1); have f3 := unhide HC2 w1 (unhide hb1)) | (go_at_call 121; refine (unhide HR _).mono ?_; rintro e w' ⟨rfl, rfl⟩) | (go_at_call 123; refine (unhide HRF _ (unhide hb1)).mono ?_; rintro e w2 ⟨rfl, hb2⟩) | (go_at_call 108; refine (unhide HLK _ (unhide hb2)).mono ?_; rintro e w3 ⟨rfl, hb3⟩) | (go_at_call 124; refine (unhide HG2 _ (unhide hb3)).mono ?_; rintro e w4 ⟨rfl, FF⟩))
              go_ret
              exact ⟨rfl, unhide FF⟩
          · rw [if_pos h3] at hE
            subst hE
            rw [no h3]
            clear HG yes no
            go_enter Tryz.func66, Tryz.ntmps66
            go_wp2_with (first | (go_at_call 116; refine (unhide HD _ (unhide hb0)).mono ?_; rintro e w1 ⟨rfl, hb1⟩; obtain ⟨f1, f2⟩ := unhide HC w1 (unhide hb1); have f3 := unhide HC2 w1 (unhide hb1)) | (go_at_call 121; refine (unhide HR _).mono ?_; rintro e w' ⟨rfl, rfl⟩) | (go_at_call 123; refine (unhide HRF _ (unhide hb1)).mono ?_; rintro e w2 ⟨rfl, hb2⟩))
            go_ret
            exact ⟨rfl, unhide HTp _ (unhide hb2)⟩
end
end Go.Proofs.YtlngeaacjbdmhaaGreat
