/-
  The contract of Make.
-/
import Derived.Test.YtlngeaacjbdmhaaLinks
import Derived.Test.YtlngeaacjbdmhaaGive
import Derived.Test.YtlngeaacjbdmhaaTrE
namespace Go.Proofs.Ytlngeaacjbdmhaa
open Go.RowKit Go.Maps

section
variable {lo N : Nat} {W W' : World} {t : Nat} {T : Tr} {q p : Nat} {nb : Int → Nat} {ev : Int → Value} {B : Nat}
/-- dir, whatever the node is, in whatever world behind. -/
theorem dirB (h : TrI lo N W t T q p nb ev) {n : Int} (hn : (kl n).wf = true) (w : World) (hb : Below W.heap.size W w) :
    Calls Try.prog 24 #[P0 t, I n] w fun e w' => e = .returned (.tuple #[(if (T.nd n).isSome = true then P0 (nb n) else .pointer none), .bool (T.dir n).isSome]) ∧ Hid (Below W.heap.size W w') := by
  cases hx : T.nd n with
  | none =>
    refine (dir_none (h.below hb) hn hx).mono ?_
    rintro e w' ⟨rfl, k, rfl⟩
    exact ⟨by simp [Tr.dir, hx], below_dn hb k⟩
  | some x =>
    refine (dir_some (h.below hb) hn hx).mono ?_
    rintro e w' ⟨rfl, k, rfl⟩
    refine ⟨?_, below_dn hb k⟩
    by_cases hk : x.kind = 1 <;> simp [Tr.dir, hx, hk]
theorem Tr.add_old {T : Tr} {k : Int} {x : Nd} (hw : Wk B T) (hk : T.nd k = some x) (kind mode uid gid : Int) (text : ByteArray) : (T.add kind mode uid gid text).nd k = some x := by
  have := hw.key k x hk
  simp only [Tr.add]
  rw [if_neg (by omega)]
  exact hk
set_option maxRecDepth 100000 in
set_option maxHeartbeats 2000000 in
theorem make_any (h : TrI lo N W t T q p nb ev) (hw : Wk B T) (hB : B ≤ 890) {dir : Int} (hn : (kl dir).wf = true) (s : ByteArray) (a kind mode uid gid f g : Int) (text : ByteArray) (hz : text.size ≤ 281474976710656) :
    Calls Try.prog 7 #[P0 t, I dir, .string s, stV a kind mode uid gid f g, .string text] W fun e w' => e = .returned (.tuple #[I (T.makeN dir s kind text), I (T.makeE dir s kind text)]) ∧ Tp lo N w' t (T.make dir s kind mode uid gid text) ∧ Tx lo W w' := by
  have hlo := h.bd.2.2.1
  obtain ⟨W0, hW0⟩ : ∃ W0, W.alloc (.cells #[I a, I kind, I mode, I uid, I gid, I f, I g] 29) = W0 := ⟨_, rfl⟩
  have hBW : Below W.heap.size W W0 := by rw [← hW0]; exact (Below.refl _ W).alloc (Nat.le_refl _) _
  have hR : W0.heap[W.heap.size]? = some (.cells #[I a, I kind, I mode, I uid, I gid, I f, I g] 29) := by rw [← hW0]; exact heap_alloc_new W _
  have X0 : Tx lo W W0 := .of_below hBW hlo
  have h0 := h.below hBW
  have HTp : Hid (∀ w, Below W0.heap.size W0 w → Tp lo N w t T ∧ Tx lo W w) := fun w hb => ⟨⟨q, p, nb, ev, h0.below hb⟩, X0.trans (.of_below hb h0.bd.2.2.1)⟩
  have SC : Hid (∀ w, Below W0.heap.size W0 w → w.cell? ⟨W.heap.size, 0, none⟩ = some (I a) ∧ w.cell? ⟨W.heap.size, 1, none⟩ = some (I kind) ∧ w.cell? ⟨W.heap.size, 2, none⟩ = some (I mode) ∧ w.cell? ⟨W.heap.size, 3, none⟩ = some (I uid) ∧ w.cell? ⟨W.heap.size, 4, none⟩ = some (I gid) ∧ w.cell? ⟨W.heap.size, 5, none⟩ = some (I f) ∧ w.cell? ⟨W.heap.size, 6, none⟩ = some (I g)) := fun w hb => by
    obtain ⟨e0, e1, e2, e3, e4, e5, e6, -⟩ := cells7 ((hb.block W.heap.size (lt_of_heap hR)).trans hR)
    exact ⟨e0, e1, e2, e3, e4, e5, e6⟩
  have HD := hide (dirB h0 hn)
  have HR := hide (right_any s)
  have HF := hide (fits_any kind text)
  have hb0 := hide (Below.refl W0.heap.size W0)
  obtain ⟨R, hRR⟩ : ∃ R, W.heap.size = R := ⟨_, rfl⟩
  obtain ⟨ft, hft⟩ : ∃ ft, ft = fitsB kind text := ⟨_, rfl⟩
  obtain ⟨rt, hrt⟩ : ∃ rt, rt = right s := ⟨_, rfl⟩
  rw [← hft] at HF
  rw [← hrt] at HR
  cases hx : T.dir dir with
  | none =>
    have e1 : T.makeE dir s kind text = 1 := by simp [Tr.makeE, hx]
    have e2 : T.make dir s kind mode uid gid text = T := by simp [Tr.make, e1]
    have e3 : T.makeN dir s kind text = 0 := by simp [Tr.makeN, e1]
    rw [e1, e2, e3]
    rw [hx] at HD
    obtain ⟨pv, hpv⟩ : ∃ pv, pv = (if (T.nd dir).isSome = true then P0 (nb dir) else Value.pointer none) := ⟨_, rfl⟩
    rw [← hpv] at HD
    clear h hw hx e1 e2 e3 hpv hBW hR X0 h0 hRR hft hrt
    go_enter Try.func7, Try.ntmps7
    go_wp2_with (first
        | (go_at_call 24; refine (unhide HD _ (unhide hb0)).mono ?_; rintro e w1 ⟨rfl, hb1⟩; obtain ⟨s0, s1, s2, s3, s4, s5, s6⟩ := unhide SC w1 (unhide hb1)))
    go_ret2
    exact ⟨rfl, unhide HTp _ (unhide hb1)⟩
  | some d =>
    obtain ⟨hd, hk1⟩ := Tr.dir_some.1 hx
    rw [hx, hd] at HD
    simp only [Option.isSome_some, if_true] at HD
    have HRF : Hid (∀ w, Below W0.heap.size W0 w → Calls Try.prog 27 #[P0 (nb dir), .string s] w fun e w' => e = .returned (I (refusesE d s)) ∧ Hid (Below W0.heap.size W0 w')) := fun w hb =>
      (refuses_any ((h0.below hb).hn dir d hd).1 ((h0.below hb).hn dir d hd).2 (hw.srt dir d hd) (by have := (hw.bnd dir d hd).2.2; omega) s).mono fun e w' ⟨h1, h2⟩ => ⟨h1, hb.trans (h2.mono hb.size)⟩
    have HLK : Hid (∀ w, Below W0.heap.size W0 w → Calls Try.prog 28 #[P0 t, P0 (nb dir)] w fun e w' => e = .returned (I (T.links d : Nat)) ∧ Hid (Below W0.heap.size W0 w')) := fun w hb =>
      (links_any (h0.below hb) hw (by omega) hd).mono fun e w' ⟨h1, h2⟩ => ⟨h1, hb.trans (h2.mono hb.size)⟩
    have HLF : Hid (∀ w, Below W0.heap.size W0 w → Calls Try.prog 13 #[P0 t] w fun e w' => e = .returned (I T.left) ∧ Hid (Below W0.heap.size W0 w')) := fun w hb =>
      (left_any (h0.below hb) hw (by omega)).mono fun e w' ⟨h1, k, h2⟩ => ⟨h1, by rw [h2]; exact below_dn hb k⟩
    have HA : Hid (∀ w, Below W0.heap.size W0 w → T.makeE dir s kind text = 0 → right s = true → Calls Try.prog 20 #[P0 t, stV a kind mode uid gid f g, .string text] w fun e w5 => e = .returned (I ((T.made : Int) + 1)) ∧ Hid (Calls Try.prog 29 #[P0 t, I dir, .string s, I ((T.made : Int) + 1)] w5 fun e w6 => e = .returned (.tuple #[]) ∧ Hid (Tp lo N w6 t (T.make dir s kind mode uid gid text) ∧ Tx lo W w6))) := fun w hb hE hrs => by
      refine (add_any (h0.below hb) hw (by omega) a kind mode uid gid f g text hz).mono ?_
      rintro e w5 ⟨h1, b, T5, X5⟩
      refine ⟨h1, ?_⟩
      have hd5 := Tr.add_old hw hd kind mode uid gid text
      have hn5 : (T.add kind mode uid gid text).nd ((T.made : Int) + 1) = some ⟨kind, bits .and .i64 mode 4095, uid, gid, 0, 0, 0, [], if kind = 2 then (T.pool.fs.length : Int) + 1 else 0, text⟩ := by simp [Tr.add]
      have hkey := hw.key dir d hd
      refine (give_any T5 hn (wf_of (by have := hw.made; omega)) hd5 hn5 (by omega) (hw.srt dir d hd) (by have := (hw.bnd dir d hd).2.2; omega) (by simp) s (by have := right_size hrs; omega)).mono ?_
      rintro e w6 ⟨h6, ev', T6, X6⟩
      have hmm : T.make dir s kind mode uid gid text = (T.add kind mode uid gid text).give dir s ((T.made : Int) + 1) := by rw [Tr.make, if_pos hE]
      rw [hmm]
      exact ⟨h6, ⟨q, p, _, ev', T6⟩, X0.trans ((Tx.of_below hb h0.bd.2.2.1).trans (X5.trans X6))⟩
    have hmE : T.makeE dir s kind text = if right s = true ∧ fitsB kind text = true then (if refusesE d s ≠ 0 then refusesE d s else if kind = 1 ∧ T.links d = 16 then 44 else if T.left = 0 then 43 else 0) else 1 := by simp [Tr.makeE, hx]
    have hmk : T.makeE dir s kind text ≠ 0 → T.make dir s kind mode uid gid text = T ∧ T.makeN dir s kind text = 0 := fun hE => ⟨by rw [Tr.make, if_neg hE], by rw [Tr.makeN, if_neg hE]⟩
    have hmk0 : T.makeE dir s kind text = 0 → T.makeN dir s kind text = (T.made : Int) + 1 := fun hE => by rw [Tr.makeN, if_pos hE]
    obtain ⟨rf, hrf⟩ : ∃ rf, rf = refusesE d s := ⟨_, rfl⟩
    obtain ⟨lk, hlk⟩ : ∃ lk, lk = T.links d := ⟨_, rfl⟩
    obtain ⟨lf, hlf⟩ : ∃ lf, lf = T.left := ⟨_, rfl⟩
    obtain ⟨E, hE⟩ : ∃ E, E = T.makeE dir s kind text := ⟨_, rfl⟩
    obtain ⟨b, hbb⟩ : ∃ b, b = nb dir := ⟨_, rfl⟩
    obtain ⟨M, hMM⟩ : ∃ M : Int, M = (T.made : Int) + 1 := ⟨_, rfl⟩
    rw [← hrf] at HRF hmE
    rw [← hlk] at HLK hmE
    rw [← hlf] at HLF hmE
    rw [← hE] at hmE hmk hmk0 HA ⊢
    rw [← hrt] at hmE HA
    rw [← hft] at hmE
    rw [← hbb] at HD HRF HLK
    rw [← hMM] at HA hmk0
    clear h hw hx hd hk1 hBW hR X0 h0 hft hrt hrf hlk hlf hE hbb hMM hRR
    by_cases h1 : rt = true
    · subst h1
      by_cases h2 : ft = true
      · subst h2
        simp only [and_self, if_true] at hmE
        by_cases h3 : rf = 0
        · subst h3
          simp only [ne_eq, not_true_eq_false, if_false] at hmE
          by_cases h4 : kind = 1
          · subst h4
            by_cases h5 : lk = 16
            · subst h5
              simp at hmE
              subst hmE
              obtain ⟨e2, e3⟩ := hmk (by decide)
              rw [e2, e3]
              clear hmk hmk0 HA e2 e3
              go_enter Try.func7, Try.ntmps7
              go_wp2_with (first
                  | (go_at_call 24; refine (unhide HD _ (unhide hb0)).mono ?_; rintro e w1 ⟨rfl, hb1⟩; obtain ⟨s0, s1, s2, s3, s4, s5, s6⟩ := unhide SC w1 (unhide hb1))
                  | (go_at_call 25; refine (unhide HR _).mono ?_; rintro e w' ⟨rfl, rfl⟩)
                  | (go_at_call 26; refine (unhide HF _).mono ?_; rintro e w' ⟨rfl, rfl⟩)
                  | (go_at_call 27; refine (unhide HRF _ (unhide hb1)).mono ?_; rintro e w2 ⟨rfl, hb2⟩; obtain ⟨t0, t1, t2, t3, t4, t5, t6⟩ := unhide SC w2 (unhide hb2))
                  | (go_at_call 28; refine (unhide HLK _ (unhide hb2)).mono ?_; rintro e w3 ⟨rfl, hb3⟩; obtain ⟨u0, u1, u2, u3, u4, u5, u6⟩ := unhide SC w3 (unhide hb3)))
              go_ret2
              exact ⟨rfl, unhide HTp _ (unhide hb3)⟩
            · have h5i : ¬ ((lk : Int) = 16) := by omega
              by_cases h6 : lf = 0
              · subst h6
                simp [h5] at hmE
                subst hmE
                obtain ⟨e2, e3⟩ := hmk (by decide)
                rw [e2, e3]
                clear hmk hmk0 HA e2 e3
                go_enter Try.func7, Try.ntmps7
                go_wp2_with (first
                    | (go_at_call 24; refine (unhide HD _ (unhide hb0)).mono ?_; rintro e w1 ⟨rfl, hb1⟩; obtain ⟨s0, s1, s2, s3, s4, s5, s6⟩ := unhide SC w1 (unhide hb1))
                    | (go_at_call 25; refine (unhide HR _).mono ?_; rintro e w' ⟨rfl, rfl⟩)
                    | (go_at_call 26; refine (unhide HF _).mono ?_; rintro e w' ⟨rfl, rfl⟩)
                    | (go_at_call 27; refine (unhide HRF _ (unhide hb1)).mono ?_; rintro e w2 ⟨rfl, hb2⟩; obtain ⟨t0, t1, t2, t3, t4, t5, t6⟩ := unhide SC w2 (unhide hb2))
                    | (go_at_call 28; refine (unhide HLK _ (unhide hb2)).mono ?_; rintro e w3 ⟨rfl, hb3⟩; obtain ⟨u0, u1, u2, u3, u4, u5, u6⟩ := unhide SC w3 (unhide hb3))
                    | (go_at_call 13; refine (unhide HLF _ (unhide hb3)).mono ?_; rintro e w4 ⟨rfl, hb4⟩; obtain ⟨x0, x1, x2, x3, x4, x5, x6⟩ := unhide SC w4 (unhide hb4)))
                go_ret2
                exact ⟨rfl, unhide HTp _ (unhide hb4)⟩
              · simp [h5, h6] at hmE
                subst hmE
                rw [hmk0 rfl]
                have HA2 := hide (fun w hb => unhide HA w hb rfl rfl)
                clear hmk hmk0 HA
                go_enter Try.func7, Try.ntmps7
                go_wp2_with (first
                    | (go_at_call 24; refine (unhide HD _ (unhide hb0)).mono ?_; rintro e w1 ⟨rfl, hb1⟩; obtain ⟨s0, s1, s2, s3, s4, s5, s6⟩ := unhide SC w1 (unhide hb1))
                    | (go_at_call 25; refine (unhide HR _).mono ?_; rintro e w' ⟨rfl, rfl⟩)
                    | (go_at_call 26; refine (unhide HF _).mono ?_; rintro e w' ⟨rfl, rfl⟩)
                    | (go_at_call 27; refine (unhide HRF _ (unhide hb1)).mono ?_; rintro e w2 ⟨rfl, hb2⟩; obtain ⟨t0, t1, t2, t3, t4, t5, t6⟩ := unhide SC w2 (unhide hb2))
                    | (go_at_call 28; refine (unhide HLK _ (unhide hb2)).mono ?_; rintro e w3 ⟨rfl, hb3⟩; obtain ⟨u0, u1, u2, u3, u4, u5, u6⟩ := unhide SC w3 (unhide hb3))
                    | (go_at_call 13; refine (unhide HLF _ (unhide hb3)).mono ?_; rintro e w4 ⟨rfl, hb4⟩; obtain ⟨x0, x1, x2, x3, x4, x5, x6⟩ := unhide SC w4 (unhide hb4))
                    | (go_at_call 20; refine (unhide HA2 _ (unhide hb4)).mono ?_; rintro e w5 ⟨rfl, HG⟩)
                    | (go_at_call 29; refine (unhide HG).mono ?_; rintro e w6 ⟨rfl, FF⟩))
                go_ret2
                exact ⟨rfl, unhide FF⟩
          · by_cases h6 : lf = 0
            · subst h6
              simp [h4] at hmE
              subst hmE
              obtain ⟨e2, e3⟩ := hmk (by decide)
              rw [e2, e3]
              clear hmk hmk0 HA e2 e3
              go_enter Try.func7, Try.ntmps7
              go_wp2_with (first
                  | (go_at_call 24; refine (unhide HD _ (unhide hb0)).mono ?_; rintro e w1 ⟨rfl, hb1⟩; obtain ⟨s0, s1, s2, s3, s4, s5, s6⟩ := unhide SC w1 (unhide hb1))
                  | (go_at_call 25; refine (unhide HR _).mono ?_; rintro e w' ⟨rfl, rfl⟩)
                  | (go_at_call 26; refine (unhide HF _).mono ?_; rintro e w' ⟨rfl, rfl⟩)
                  | (go_at_call 27; refine (unhide HRF _ (unhide hb1)).mono ?_; rintro e w2 ⟨rfl, hb2⟩; obtain ⟨t0, t1, t2, t3, t4, t5, t6⟩ := unhide SC w2 (unhide hb2))
                  | (go_at_call 13; refine (unhide HLF _ (unhide hb2)).mono ?_; rintro e w4 ⟨rfl, hb4⟩; obtain ⟨x0, x1, x2, x3, x4, x5, x6⟩ := unhide SC w4 (unhide hb4)))
              go_ret2
              exact ⟨rfl, unhide HTp _ (unhide hb4)⟩
            · simp [h4, h6] at hmE
              subst hmE
              rw [hmk0 rfl]
              have HA2 := hide (fun w hb => unhide HA w hb rfl rfl)
              clear hmk hmk0 HA
              go_enter Try.func7, Try.ntmps7
              go_wp2_with (first
                  | (go_at_call 24; refine (unhide HD _ (unhide hb0)).mono ?_; rintro e w1 ⟨rfl, hb1⟩; obtain ⟨s0, s1, s2, s3, s4, s5, s6⟩ := unhide SC w1 (unhide hb1))
                  | (go_at_call 25; refine (unhide HR _).mono ?_; rintro e w' ⟨rfl, rfl⟩)
                  | (go_at_call 26; refine (unhide HF _).mono ?_; rintro e w' ⟨rfl, rfl⟩)
                  | (go_at_call 27; refine (unhide HRF _ (unhide hb1)).mono ?_; rintro e w2 ⟨rfl, hb2⟩; obtain ⟨t0, t1, t2, t3, t4, t5, t6⟩ := unhide SC w2 (unhide hb2))
                  | (go_at_call 13; refine (unhide HLF _ (unhide hb2)).mono ?_; rintro e w4 ⟨rfl, hb4⟩; obtain ⟨x0, x1, x2, x3, x4, x5, x6⟩ := unhide SC w4 (unhide hb4))
                  | (go_at_call 20; refine (unhide HA2 _ (unhide hb4)).mono ?_; rintro e w5 ⟨rfl, HG⟩)
                  | (go_at_call 29; refine (unhide HG).mono ?_; rintro e w6 ⟨rfl, FF⟩))
              go_ret2
              exact ⟨rfl, unhide FF⟩
        · simp only [ne_eq, h3, not_false_eq_true, if_true] at hmE
          subst hmE
          obtain ⟨e2, e3⟩ := hmk h3
          rw [e2, e3]
          clear hmk hmk0 HA e2 e3
          go_enter Try.func7, Try.ntmps7
          go_wp2_with (first
              | (go_at_call 24; refine (unhide HD _ (unhide hb0)).mono ?_; rintro e w1 ⟨rfl, hb1⟩; obtain ⟨s0, s1, s2, s3, s4, s5, s6⟩ := unhide SC w1 (unhide hb1))
              | (go_at_call 25; refine (unhide HR _).mono ?_; rintro e w' ⟨rfl, rfl⟩)
              | (go_at_call 26; refine (unhide HF _).mono ?_; rintro e w' ⟨rfl, rfl⟩)
              | (go_at_call 27; refine (unhide HRF _ (unhide hb1)).mono ?_; rintro e w2 ⟨rfl, hb2⟩; obtain ⟨t0, t1, t2, t3, t4, t5, t6⟩ := unhide SC w2 (unhide hb2)))
          go_ret2
          exact ⟨rfl, unhide HTp _ (unhide hb2)⟩
      · replace h2 : ft = false := by simpa using h2
        subst h2
        simp at hmE
        subst hmE
        obtain ⟨e2, e3⟩ := hmk (by decide)
        rw [e2, e3]
        clear hmk hmk0 HA e2 e3
        go_enter Try.func7, Try.ntmps7
        go_wp2_with (first
            | (go_at_call 24; refine (unhide HD _ (unhide hb0)).mono ?_; rintro e w1 ⟨rfl, hb1⟩; obtain ⟨s0, s1, s2, s3, s4, s5, s6⟩ := unhide SC w1 (unhide hb1))
            | (go_at_call 25; refine (unhide HR _).mono ?_; rintro e w' ⟨rfl, rfl⟩)
            | (go_at_call 26; refine (unhide HF _).mono ?_; rintro e w' ⟨rfl, rfl⟩))
        go_ret2
        exact ⟨rfl, unhide HTp _ (unhide hb1)⟩
    · replace h1 : rt = false := by simpa using h1
      subst h1
      simp at hmE
      subst hmE
      obtain ⟨e2, e3⟩ := hmk (by decide)
      rw [e2, e3]
      clear hmk hmk0 HA e2 e3
      go_enter Try.func7, Try.ntmps7
      go_wp2_with (first
          | (go_at_call 24; refine (unhide HD _ (unhide hb0)).mono ?_; rintro e w1 ⟨rfl, hb1⟩; obtain ⟨s0, s1, s2, s3, s4, s5, s6⟩ := unhide SC w1 (unhide hb1))
          | (go_at_call 25; refine (unhide HR _).mono ?_; rintro e w' ⟨rfl, rfl⟩))
      go_ret2
      exact ⟨rfl, unhide HTp _ (unhide hb1)⟩
end
end Go.Proofs.Ytlngeaacjbdmhaa
