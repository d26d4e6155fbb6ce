/-
  The contracts of Part and yields.
-/
import Derived.Test.YtlngeaacjbdmhaaMake
import Derived.Test.YtlngeaacjbdmhaaTake
namespace Go.Proofs.Ytlngeaacjbdmhaa
open Go.RowKit Go.Maps

section
variable {lo N : Nat} {W W' : World} {t : Nat} {T : Tr} {q p : Nat} {nb : Int → Nat} {ev : Int → Value} {B : Nat}
/-- find, in whatever world behind. -/
theorem findB (h : TrI lo N W t T q p nb ev) (hw : Wk B T) (hB : B ≤ 890) {n : Int} {d : Nd} (hd : T.nd n = some d) (s : ByteArray) (w : World) (hb : Below W.heap.size W w) :
    Calls Try.prog 30 #[P0 (nb n), .string s] w fun e w' => e = .returned (.tuple #[I ((getE d.ins s).getD 0), .bool (getE d.ins s).isSome]) ∧ Hid (Below W.heap.size W w') :=
  (find_any ((h.below hb).hn n d hd).1 ((h.below hb).hn n d hd).2 (hw.srt n d hd) (by have := (hw.bnd n d hd).2.2; omega) s).mono fun _ _ ⟨h1, h2⟩ => ⟨h1, hb.trans (h2.mono hb.size)⟩
/-- What a name leads to. -/
theorem Wk.at (hw : Wk B T) {n : Int} {d : Nd} (hd : T.nd n = some d) {s : ByteArray} {m : Int} (hm : getE d.ins s = some m) : ∃ y, T.nd m = some y ∧ 0 < y.names := by
  obtain ⟨y, hy⟩ := hw.ent hd (getE_some hm)
  refine ⟨y, hy, ?_⟩
  have h1 := cntE_pos hw hd (getE_some hm)
  have h2 := hw.num m y hy
  simp only at h1
  omega
set_option maxRecDepth 100000 in
set_option maxHeartbeats 1000000 in
theorem part_any (h : TrI lo N W t T q p nb ev) (hw : Wk B T) (hB : B ≤ 890) {dir : Int} (hn : (kl dir).wf = true) (s : ByteArray) (hself : ∀ d, T.nd dir = some d → getE d.ins s ≠ some dir) :
    Calls Try.prog 9 #[P0 t, I dir, .string s] W fun e w' => e = .returned (I (T.partE dir s)) ∧ Tp lo N w' t (T.part dir s) ∧ Tx lo W w' := by
  have hlo := h.bd.2.2.1
  have HTp : Hid (∀ w, Below W.heap.size W w → Tp lo N w t T ∧ Tx lo W w) := fun w hb => ⟨⟨q, p, nb, ev, h.below hb⟩, .of_below hb hlo⟩
  have HD := hide (dirB h hn)
  have hb0 := hide (Below.refl W.heap.size W)
  cases hx : T.dir dir with
  | none =>
    have e1 : T.partE dir s = 1 := by simp [Tr.partE, hx]
    have e2 : T.part dir s = T := by simp [Tr.part, e1]
    rw [e1, e2]
    rw [hx] at HD
    obtain ⟨pv, hpv⟩ : ∃ pv, pv = (if (T.nd dir).isSome = true then P0 (nb dir) else Value.pointer none) := ⟨_, rfl⟩
    rw [← hpv] at HD
    clear h hw hx e1 e2 hpv hself
    go_enter Try.func9, Try.ntmps9
    go_wp2_with (go_at_call 24; refine (unhide HD _ (unhide hb0)).mono ?_; rintro e w1 ⟨rfl, hb1⟩)
    go_ret
    exact ⟨rfl, unhide HTp _ (unhide hb1)⟩
  | some d =>
    obtain ⟨hd, hk1⟩ := Tr.dir_some.1 hx
    rw [hx, hd] at HD
    simp only [Option.isSome_some, if_true] at HD
    have HFi := hide (findB h hw hB hd s)
    cases hm : getE d.ins s with
    | none =>
      have e1 : T.partE dir s = 32 := by simp [Tr.partE, hx, hm]
      have e2 : T.part dir s = T := by simp [Tr.part, e1]
      rw [e1, e2]
      rw [hm] at HFi
      obtain ⟨b, hbb⟩ : ∃ b, b = nb dir := ⟨_, rfl⟩
      rw [← hbb] at HD HFi
      clear h hw hx e1 e2 hself hd hk1 hm hbb
      go_enter Try.func9, Try.ntmps9
      go_wp2_with (first | (go_at_call 24; refine (unhide HD _ (unhide hb0)).mono ?_; rintro e w1 ⟨rfl, hb1⟩) | (go_at_call 30; refine (unhide HFi _ (unhide hb1)).mono ?_; rintro e w2 ⟨rfl, hb2⟩))
      go_ret
      exact ⟨rfl, unhide HTp _ (unhide hb2)⟩
    | some m =>
      obtain ⟨y, hy, hy1⟩ := hw.at hd hm
      rw [hm] at HFi
      simp only [Option.getD_some, Option.isSome_some] at HFi
      have hmw := hw.wf (by omega) hy
      have HC : Hid (∀ w, Below W.heap.size W w → w.cell? ⟨t, 2, none⟩ = some (.map (some q)) ∧ (Instr.lookup 55 (.map (some q)) (I m) false).run Try.prog w = .ok (P0 (nb m)) w ∧ w.cell? ⟨nb m, 7, none⟩ = some (ev m)) := fun w hb => by
        have h1 := h.below hb
        have hlk := h1.look hmw
        rw [hy] at hlk
        simp only [Option.isSome_some, if_true] at hlk
        obtain ⟨-, -, -, -, -, -, -, d7, -, -, -⟩ := ndcells (h1.hn m y hy).1
        exact ⟨h1.cells.2.2.1, hlk, d7⟩
      obtain ⟨ad, cap, hv⟩ := own_form (h.hn m y hy).2
      rw [hv] at HC
      have hpE : T.partE dir s = if 0 < y.ins.length then 47 else 0 := by simp [Tr.partE, hx, hm, Tr.insOf, hy]
      by_cases hz : 0 < y.ins.length
      · rw [if_pos hz] at hpE
        have e2 : T.part dir s = T := by simp [Tr.part, hpE]
        rw [hpE, e2]
        obtain ⟨L, hL⟩ : ∃ L, L = y.ins.length := ⟨_, rfl⟩
        rw [← hL] at HC hz
        have hz2 : (0 : Int) < (L : Int) := by omega
        obtain ⟨b, hbb⟩ : ∃ b, b = nb dir := ⟨_, rfl⟩
        obtain ⟨bm, hbm⟩ : ∃ bm, bm = nb m := ⟨_, rfl⟩
        rw [← hbb] at HD HFi
        rw [← hbm] at HC
        clear h hw hx hpE e2 hself hd hk1 hm hbb hbm hy hy1 hv hL hz
        go_enter Try.func9, Try.ntmps9
        go_wp2_with (first | (go_at_call 24; refine (unhide HD _ (unhide hb0)).mono ?_; rintro e w1 ⟨rfl, hb1⟩) | (go_at_call 30; refine (unhide HFi _ (unhide hb1)).mono ?_; rintro e w2 ⟨rfl, hb2⟩; obtain ⟨f1, f2, f3⟩ := unhide HC w2 (unhide hb2)))
        go_ret
        exact ⟨rfl, unhide HTp _ (unhide hb2)⟩
      · rw [if_neg hz] at hpE
        have e2 : T.part dir s = T.take dir s := by simp [Tr.part, hpE]
        rw [hpE, e2]
        have hz2 : y.ins.length = 0 := by omega
        rw [hz2] at HC
        have HT : Hid (∀ w, Below W.heap.size W w → Calls Try.prog 31 #[P0 t, P0 (nb dir), .string s] w fun e w' => e = .returned (.tuple #[]) ∧ Hid (Tp lo N w' t (T.take dir s) ∧ Tx lo W w')) := fun w hb => by
          refine (take_any (B := B) (h.below hb) (by omega) hmw hd hy (fun e => hself d hd (by rw [e]; exact hm)) (hw.srt dir d hd) (by have := (hw.bnd dir d hd).2.2; omega) ⟨hy1, by have := (hw.bnd m y hy).1; omega⟩ ⟨(hw.fil m y hy).1, (hw.fil m y hy).2.1⟩ s hm).mono ?_
          rintro e w' ⟨h1, ev', h2, h3⟩
          exact ⟨h1, ⟨q, p, nb, ev', h2⟩, (Tx.of_below hb hlo).trans h3⟩
        obtain ⟨b, hbb⟩ : ∃ b, b = nb dir := ⟨_, rfl⟩
        obtain ⟨bm, hbm⟩ : ∃ bm, bm = nb m := ⟨_, rfl⟩
        rw [← hbb] at HD HFi HT
        rw [← hbm] at HC
        clear h hw hx hpE e2 hself hd hk1 hm hbb hbm hy hy1 hv hz hz2
        go_enter Try.func9, Try.ntmps9
        go_wp2_with (first | (go_at_call 24; refine (unhide HD _ (unhide hb0)).mono ?_; rintro e w1 ⟨rfl, hb1⟩) | (go_at_call 30; refine (unhide HFi _ (unhide hb1)).mono ?_; rintro e w2 ⟨rfl, hb2⟩; obtain ⟨f1, f2, f3⟩ := unhide HC w2 (unhide hb2)) | (go_at_call 31; refine (unhide HT _ (unhide hb2)).mono ?_; rintro e w3 ⟨rfl, FF⟩))
        go_ret
        exact ⟨rfl, unhide FF⟩
set_option maxRecDepth 100000 in
theorem yields_any (h : TrI lo N W t T q p nb ev) {old : Int} (hn : (kl old).wf = true) {y : Nd} (hy : T.nd old = some y) (td : Bool) (w : World) (hb : Below W.heap.size W w) :
    Calls Try.prog 33 #[P0 t, I old, .bool td] w fun e w' => e = .returned (I (T.yieldsE old td)) ∧ w' = w := by
  have h1 := h.below hb
  obtain ⟨c0, c1, c2, c3, cf⟩ := h1.cells
  have hlk := h1.look hn
  rw [hy] at hlk
  simp only [Option.isSome_some, if_true] at hlk
  obtain ⟨d0, -, -, -, -, -, -, d7, -, -, df⟩ := ndcells (h1.hn old y hy).1
  obtain ⟨ad, cap, hv⟩ := own_form (h1.hn old y hy).2
  rw [hv] at d7
  have hE : T.yieldsE old td = if td = true ∧ y.kind ≠ 1 then 37 else if td = false ∧ y.kind = 1 then 38 else if 0 < y.ins.length then 47 else 0 := by simp [Tr.yieldsE, Tr.kindOf, Tr.insOf, hy]
  obtain ⟨L, hL⟩ : ∃ L, L = y.ins.length := ⟨_, rfl⟩
  obtain ⟨kd, hkd⟩ : ∃ kd, kd = y.kind := ⟨_, rfl⟩
  obtain ⟨E, hEE⟩ : ∃ E, E = T.yieldsE old td := ⟨_, rfl⟩
  rw [← hL] at d7 hE
  rw [← hkd] at d0 hE
  rw [← hEE] at hE ⊢
  clear h h1 hy hv hL hkd hEE hb
  by_cases hk : kd = 1
  · subst hk
    cases td with
    | false =>
      simp at hE
      subst hE
      go_enter Try.func33, Try.ntmps33
      go_wp2_with fail
      go_ret
      exact ⟨rfl, rfl⟩
    | true =>
      by_cases hz : 0 < L
      · have hz2 : (0 : Int) < (L : Int) := by omega
        simp [hz] at hE
        subst hE
        go_enter Try.func33, Try.ntmps33
        go_wp2_with fail
        go_ret
        exact ⟨rfl, rfl⟩
      · obtain rfl : L = 0 := by omega
        simp at hE
        subst hE
        clear hz
        go_enter Try.func33, Try.ntmps33
        go_wp2_with fail
        go_ret
        exact ⟨rfl, rfl⟩
  · cases td with
    | true =>
      simp [hk] at hE
      subst hE
      go_enter Try.func33, Try.ntmps33
      go_wp2_with fail
      go_ret
      exact ⟨rfl, rfl⟩
    | false =>
      by_cases hz : 0 < L
      · have hz2 : (0 : Int) < (L : Int) := by omega
        simp [hk, hz] at hE
        subst hE
        go_enter Try.func33, Try.ntmps33
        go_wp2_with fail
        go_ret
        exact ⟨rfl, rfl⟩
      · obtain rfl : L = 0 := by omega
        simp [hk] at hE
        subst hE
        clear hz
        go_enter Try.func33, Try.ntmps33
        go_wp2_with fail
        go_ret
        exact ⟨rfl, rfl⟩
end
end Go.Proofs.Ytlngeaacjbdmhaa
