/-
  The contract of take: a name less.
-/
import Derived.Test.YtlngeaacjbdmhaaGreatQp09
import Derived.Test.YtlngeaacjbdmhaaGreatQp07
import Derived.Laws.ResultCell
namespace Go.Proofs.YtlngeaacjbdmhaaGreat
open Go.RowKit Go.Maps
section
variable {lo N : Nat} {W W' : World} {t : Nat} {T : Tr} {q p : Nat} {nb : Int → Nat} {ev : Int → Value} {B : Nat}
set_option maxRecDepth 100000 in
set_option maxHeartbeats 1000000 in
theorem take_any (h : TrI lo N W t T q p nb ev) (hB : B ≤ 900) {dir n : Int} {d x : Nd} (hwn : (kl n).wf = true) (hd : T.nd dir = some d) (hx : T.nd n = some x) (hdn : dir ≠ n) (hs : Srt d.ins) (hl : d.ins.length < 900) (hnm : 0 < x.names ∧ x.names < 900) (hf : 0 ≤ x.file ∧ x.file ≤ B) (s : ByteArray) (hg : getE d.ins s = some n) :
    Calls Tryz.prog 125 #[P0 t, P0 (nb dir), .string s] W fun e w' => e = .returned (.tuple #[]) ∧ ∃ ev', TrI lo N w' t (T.take dir s) q p nb ev' ∧ Tx lo W w' := by
  obtain ⟨c0, c1, c2, c3, cf⟩ := h.cells
  obtain ⟨hb, hr⟩ := h.hn dir d hd
  have hne := (h.dn dir n d x hd hx hdn).1
  obtain ⟨b, hbe⟩ : ∃ b, b = nb dir := ⟨_, rfl⟩
  obtain ⟨bx, hbxe⟩ : ∃ bx, bx = nb n := ⟨_, rfl⟩
  rw [← hbe] at hb hne ⊢
  rw [← hbxe] at hne
  obtain ⟨P, hP⟩ : ∃ P, P = pos d.ins s := ⟨_, rfl⟩
  have hat := (hs.at_pos s).2 n hg
  rw [← hP] at hat
  obtain ⟨L, hL⟩ : ∃ L, L = d.ins.length := ⟨_, rfl⟩
  have hPL : P < L := by rw [hL]; exact (List.getElem?_eq_some_iff.1 hat).1
  have hlo := h.bd.2.2.1
  have hbl := lt_of_heap hb
  have HP := hide (place_any hb hr hs (by omega) s)
  rw [← hP, hg] at HP
  obtain ⟨g, cap, hv, hcap, hcm, hgl, hgW, hcells⟩ : ∃ g cap, ev dir = .slice (some ⟨g, 0, none⟩) L cap ∧ L ≤ cap ∧ cap ≤ maxLen ∧ lo ≤ g ∧ g < W.heap.size ∧ ∀ (i : Nat) (a : ByteArray) (n : Int), d.ins[i]? = some (a, n) → W.cell? ⟨g, i * 2, none⟩ = some (.string a) ∧ W.cell? ⟨g, i * 2 + 1, none⟩ = some (.int .i64 n) := by
    rcases hr.open' with ⟨_, hz⟩ | ⟨g, cap, h1, h2, h3, h4, h5, h6⟩
    · rw [hz] at hL; simp at hL; omega
    · exact ⟨g, cap, by rw [hL]; exact h1, by rw [hL]; exact h2, h3, h4, h5, h6⟩
  have hmx : cap ≤ 9223372036854775807 := by unfold maxLen at hcm; omega
  have HB7 : Hid (∀ w2, Below W.heap.size W w2 → w2.cell? ⟨b, 7, none⟩ = some (.slice (some ⟨g, 0, none⟩) L cap) ∧ (∀ i, w2.frozen? ⟨b, i, none⟩ = false) ∧ w2.cell? ⟨g, P * 2, none⟩ = some (.string s) ∧ w2.cell? ⟨g, P * 2 + 1, none⟩ = some (.int .i64 n)) := fun w2 hB2 => by
    obtain ⟨-, -, -, -, -, -, -, d7, -, -, df⟩ := ndcells ((hB2.block _ hbl).trans hb)
    obtain ⟨k1, k2⟩ := hcells P s n hat
    have hgw := hB2.block g hgW
    exact ⟨by rw [d7, hv], df, (cell_same hgw _).trans k1, (cell_same hgw _).trans k2⟩
  have HI : Hid (∀ w2, Below W.heap.size W w2 → Calls Tryz.prog 213 #[.slice (some ⟨g, 0, none⟩) L cap, .int .i64 (P : Int), .int .i64 ((P : Int) + 1)] w2 fun e w3 => e = .returned (.slice (some ⟨g, 0, none⟩) (L - 1) cap) ∧ (w3.cell? ⟨b, 7, none⟩ = some (.slice (some ⟨g, 0, none⟩) L cap) ∧ ∀ i, w3.frozen? ⟨b, i, none⟩ = false) ∧
      ∃ V5, V5 = w3.setCell ⟨b, 7, none⟩ (.slice (some ⟨g, 0, none⟩) (L - 1) cap) ∧ (V5.cell? ⟨t, 2, none⟩ = some (.map (some q)) ∧ (Instr.lookup 123 (.map (some q)) (I n) false).run Tryz.prog V5 = .ok (P0 bx) V5 ∧ V5.cell? ⟨bx, 4, none⟩ = some (I (x.names : Int)) ∧ ∀ i, V5.frozen? ⟨bx, i, none⟩ = false) ∧
        Hid (Calls Tryz.prog 134 #[P0 t, I n] (V5.setCell ⟨bx, 4, none⟩ (I ((x.names : Int) - 1))) fun e w' => e = .returned (.tuple #[]) ∧ ∃ ev', TrI lo N w' t (T.take dir s) q p nb ev' ∧ Tx lo W w')) := fun w2 hB2 => by
    have hown2 : Ro lo w2 (ev dir) d.ins := hr.below hB2
    have hI := delete_any lo g L cap P d.ins w2 hL.symm (by rw [← hv, hL]; exact hown2) hPL
    refine hI.mono ?_
    rintro e w3 ⟨rfl, own3, del⟩
    have hbb : w2.heap[b]? = some (.cells (ndC d (ev dir)) 129) := (hB2.block _ hbl).trans hb
    have hgb : b ≠ g := fun e => by
      obtain ⟨_, cur, hc⟩ := hr.blk (g := g) (by rw [hv]; rfl)
      rw [← e, hb] at hc
      simp [ndC] at hc
    have h3b : w3.heap[b]? = some (.cells (ndC d (ev dir)) 129) := (del.blk b hgb).trans hbb
    have FN : Fn (nb dir) (ev dir).ownBlock W (w3.setCell ⟨nb dir, 7, none⟩ (.slice (some ⟨g, 0, none⟩) (L - 1) cap)) := by
      refine Fn.set ?_ 7 _
      have hB3 : Fn (nb dir) (ev dir).ownBlock W w2 := Fn.of_below hB2
      exact ⟨del.os.trans hB3.os, del.tape.trans hB3.tape, del.output.trans hB3.output, by rw [del.size]; exact hB3.size, fun k hk h1 h2 => (del.blk k (fun e => h2 (by rw [e, hv]; rfl))).trans (hB3.blk k hk h1 h2)⟩
    have hy : (w3.setCell ⟨nb dir, 7, none⟩ (.slice (some ⟨g, 0, none⟩) (L - 1) cap)).heap[nb dir]? = some (.cells (ndC { d with ins := delE d.ins s } (.slice (some ⟨g, 0, none⟩) (L - 1) cap)) 129) := by
      rw [← hbe, heap_set h3b]; rfl
    have hdl : (delE d.ins s).length = L - 1 := by have := delE_length hs hg; omega
    have hr5 : Ro lo (w3.setCell ⟨nb dir, 7, none⟩ (.slice (some ⟨g, 0, none⟩) (L - 1) cap)) (.slice (some ⟨g, 0, none⟩) (L - 1) cap) (delE d.ins s) := by
      have h1 : Ro lo w3 (.slice (some ⟨g, 0, none⟩) (L - 1) cap) (delE d.ins s) := by
        show World.ownsRow _ _ _ _ _ _ _
        rw [hdl]
        have e : delE d.ins s = d.ins.take P ++ d.ins.drop (P + 1) := by rw [hP]; rfl
        rw [e]
        exact own3
      refine h1.same fun g' hg' => Below.heap_setCell _ _ _ _ fun e => ?_
      obtain ⟨_, cur, hc⟩ := h1.blk hg'
      rw [show g' = b from e.trans hbe.symm, h3b] at hc
      simp [ndC] at hc
    obtain ⟨T5, X5⟩ := h.turn hd FN hy hr5 (.inl (by rw [hv]; rfl))
    have hx5 : (T.set dir (some { d with ins := delE d.ins s })).nd n = some x := by rw [Tr.set_other _ _ (Ne.symm hdn)]; exact hx
    rw [← hbe] at T5 X5
    obtain ⟨hbx5, hrx5⟩ := T5.hn n x hx5
    rw [← hbxe] at hbx5
    obtain ⟨-, -, -, -, y4, -, -, -, -, -, yf⟩ := ndcells hbx5
    obtain ⟨-, -, -, -, -, -, -, z7, -, -, zf⟩ := ndcells h3b
    have hlk := T5.look hwn
    rw [hx5] at hlk
    simp only [Option.isSome_some, if_true] at hlk
    rw [← hbxe] at hlk
    refine ⟨rfl, ⟨by rw [z7, hv], zf⟩, _, rfl, ⟨T5.cells.2.2.1, hlk, y4, yf⟩, ?_⟩
    obtain ⟨T6, X6⟩ := T5.turn (y := { x with names := x.names - 1 }) (v := if n = dir then (.slice (some ⟨g, 0, none⟩) (L - 1) cap) else ev n) hx5 (W' := (w3.setCell ⟨b, 7, none⟩ (.slice (some ⟨g, 0, none⟩) (L - 1) cap)).setCell ⟨nb n, 4, none⟩ (I ((x.names : Int) - 1))) ((Fn.refl _ _ _).set 4 _) (by rw [← hbxe, heap_set hbx5]; simp [ndC]; omega) (hrx5.same fun g hg => Below.heap_setCell _ _ _ _ (fun e => by obtain ⟨_, cur, hc⟩ := hrx5.blk hg; rw [show g = bx from e.trans hbxe.symm, hbx5] at hc; simp [ndC] at hc)) (.inl rfl)
    rw [← hbxe] at T6 X6
    refine (leave_any (B := B) T6 hB hwn (Tr.set_same _ _ _) hf).mono ?_
    rintro e w' ⟨h1, h2, h3⟩
    have e5 : T.take dir s = (((T.set dir (some { d with ins := delE d.ins s })).set n (some { x with names := x.names - 1 })).leave n) := by
      simp only [Tr.take, hd, hg]
      simp only [Tr.less, hx5]
    rw [e5]
    exact ⟨h1, _, h2, X5.trans (X6.trans h3)⟩
  obtain ⟨m, hm⟩ : ∃ m, m = x.names := ⟨_, rfl⟩
  rw [← hm] at HI
  have hm1 : (m : Int) < 900 := by omega
  have hm0 : (0 : Int) < (m : Int) := by omega
  have q0 : (0 : Int) ≤ (P : Int) := by omega
  have q1 : (P : Int) < (L : Int) := by omega
  have q2 : (P : Int) < 900 := by omega
  have HPLL := hide hPL
  clear h hd hx hb hr hP hm hbe hbxe hs hl hnm hf hg hat hL hv hcells hcm hB hgl c0 c1 c2 c3 cf hcap
  go_enter Tryz.func125, Tryz.ntmps125
  go_wp2_with (go_at_call 207; refine (unhide HP).mono ?_; rintro e V ⟨rfl, hBV⟩; obtain ⟨v7, vf, w1, w2⟩ := unhide HB7 V hBV; have HBV := hide hBV; clear hBV)
  refine (unhide HI V (unhide HBV)).mono ?_
  rintro e w3 ⟨rfl, ⟨x7, xf⟩, V5, hV5, ⟨z2, zl, z4, zf⟩, FF⟩
  replace hV5 := hV5.symm
  go_wp2_with (go_at_call 134; refine (unhide FF).mono ?_; rintro e w1 ⟨rfl, GG⟩; have HG := hide GG; clear GG)
  go_end0
  exact ⟨rfl, unhide HG⟩
end
end Go.Proofs.YtlngeaacjbdmhaaGreat

namespace Go.Proofs.YtlngeaacjbdmhaaGreat
open Go.RowKit Go.Maps
section
variable {lo N : Nat} {W W' : World} {t : Nat} {T : Tr} {q p : Nat} {nb : Int → Nat} {ev : Int → Value} {B : Nat}
theorem findB (h : TrI lo N W t T q p nb ev) (hw : Wk B T) (hB : B ≤ 890) {n : Int} {d : Nd} (hd : T.nd n = some d) (s : ByteArray) (w : World) (hb : Below W.heap.size W w) :
    Calls Tryz.prog 117 #[P0 (nb n), .string s] w fun e w' => e = .returned (.tuple #[I ((getE d.ins s).getD 0), .bool (getE d.ins s).isSome]) ∧ Hid (Below W.heap.size W w') :=
  (find_any ((h.below hb).hn n d hd).1 ((h.below hb).hn n d hd).2 (hw.srt n d hd) (by have := (hw.bnd n d hd).2.2; omega) s).mono fun _ _ ⟨h1, h2⟩ => ⟨h1, hb.trans (h2.mono hb.size)⟩
theorem Wk.at (hw : Wk B T) {n : Int} {d : Nd} (hd : T.nd n = some d) {s : ByteArray} {m : Int} (hm : getE d.ins s = some m) : ∃ y, T.nd m = some y ∧ 0 < y.names := by
  obtain ⟨y, hy⟩ := hw.ent hd (getE_some hm)
  refine ⟨y, hy, ?_⟩
  have h1 := cntE_pos hw hd (getE_some hm)
  have h2 := hw.num m y hy
  simp only at h1
  omega
set_option maxRecDepth 100000 in
set_option maxHeartbeats 1000000 in
theorem part_any (h : TrI lo N W t T q p nb ev) (hw : Wk B T) (hB : B ≤ 890) {dir : Int} (hn : (kl dir).wf = true) (s : ByteArray) (hself : ∀ d, T.nd dir = some d → getE d.ins s ≠ some dir) :
    Calls Tryz.prog 64 #[P0 t, I dir, .string s] W fun e w' => e = .returned (I (T.partE dir s)) ∧ Tp lo N w' t (T.part dir s) ∧ Tx lo W w' := by
  have hlo := h.bd.2.2.1
  have HTp : Hid (∀ w, Below W.heap.size W w → Tp lo N w t T ∧ Tx lo W w) := fun w hb => ⟨⟨q, p, nb, ev, h.below hb⟩, .of_below hb hlo⟩
  have HD := hide (dirB h hn)
  have hb0 := hide (Below.refl W.heap.size W)
  cases hx : T.dir dir with
  | none =>
    have e1 : T.partE dir s = 1 := by simp [Tr.partE, hx]
    have e2 : T.part dir s = T := by simp [Tr.part, e1]
    rw [e1, e2]
    rw [hx] at HD
    obtain ⟨pv, hpv⟩ : ∃ pv, pv = (if (T.nd dir).isSome = true then P0 (nb dir) else Value.pointer none) := ⟨_, rfl⟩
    rw [← hpv] at HD
    clear h hw hx e1 e2 hpv hself
    go_enter Tryz.func64, Tryz.ntmps64
    go_wp2_with (go_at_call 116; refine (unhide HD _ (unhide hb0)).mono ?_; rintro e w1 ⟨rfl, hb1⟩)
    go_ret
    exact ⟨rfl, unhide HTp _ (unhide hb1)⟩
  | some d =>
    obtain ⟨hd, hk1⟩ := Tr.dir_some.1 hx
    rw [hx, hd] at HD
    simp only [Option.isSome_some, if_true] at HD
    have HFi := hide (findB h hw hB hd s)
    cases hm : getE d.ins s with
    | none =>
      have e1 : T.partE dir s = 32 := by simp [Tr.partE, hx, hm]
      have e2 : T.part dir s = T := by simp [Tr.part, e1]
      rw [e1, e2]
      rw [hm] at HFi
      obtain ⟨b, hbb⟩ : ∃ b, b = nb dir := ⟨_, rfl⟩
      rw [← hbb] at HD HFi
      clear h hw hx e1 e2 hself hd hk1 hm hbb
      go_enter Tryz.func64, Tryz.ntmps64
      go_wp2_with (first | (go_at_call 116; refine (unhide HD _ (unhide hb0)).mono ?_; rintro e w1 ⟨rfl, hb1⟩) | (go_at_call 117; refine (unhide HFi _ (unhide hb1)).mono ?_; rintro e w2 ⟨rfl, hb2⟩))
      go_ret
      exact ⟨rfl, unhide HTp _ (unhide hb2)⟩
    | some m =>
      obtain ⟨y, hy, hy1⟩ := hw.at hd hm
      rw [hm] at HFi
      simp only [Option.getD_some, Option.isSome_some] at HFi
      have hmw := hw.wf (by omega) hy
      have HC : Hid (∀ w, Below W.heap.size W w → w.cell? ⟨t, 2, none⟩ = some (.map (some q)) ∧ (Instr.lookup 123 (.map (some q)) (I m) false).run Tryz.prog w = .ok (P0 (nb m)) w ∧ w.cell? ⟨nb m, 7, none⟩ = some (ev m)) := fun w hb => by
        have h1 := h.below hb
        have hlk := h1.look hmw
        rw [hy] at hlk
        simp only [Option.isSome_some, if_true] at hlk
        obtain ⟨-, -, -, -, -, -, -, d7, -, -, -⟩ := ndcells (h1.hn m y hy).1
        exact ⟨h1.cells.2.2.1, hlk, d7⟩
      obtain ⟨ad, cap, hv⟩ := own_form (h.hn m y hy).2
      rw [hv] at HC
      have hpE : T.partE dir s = if 0 < y.ins.length then 47 else 0 := by simp [Tr.partE, hx, hm, Tr.insOf, hy]
      by_cases hz : 0 < y.ins.length
      · rw [if_pos hz] at hpE
        have e2 : T.part dir s = T := by simp [Tr.part, hpE]
        rw [hpE, e2]
        obtain ⟨L, hL⟩ : ∃ L, L = y.ins.length := ⟨_, rfl⟩
        rw [← hL] at HC hz
        have hz2 : (0 : Int) < (L : Int) := by omega
        obtain ⟨b, hbb⟩ : ∃ b, b = nb dir := ⟨_, rfl⟩
        obtain ⟨bm, hbm⟩ : ∃ bm, bm = nb m := ⟨_, rfl⟩
        rw [← hbb] at HD HFi
        rw [← hbm] at HC
        clear h hw hx hpE e2 hself hd hk1 hm hbb hbm hy hy1 hv hL hz
        go_enter Tryz.func64, Tryz.ntmps64
        go_wp2_with (first | (go_at_call 116; refine (unhide HD _ (unhide hb0)).mono ?_; rintro e w1 ⟨rfl, hb1⟩) | (go_at_call 117; refine (unhide HFi _ (unhide hb1)).mono ?_; rintro e w2 ⟨rfl, hb2⟩; obtain ⟨f1, f2, f3⟩ := unhide HC w2 (unhide hb2)))
        go_ret
        exact ⟨rfl, unhide HTp _ (unhide hb2)⟩
      · rw [if_neg hz] at hpE
        have e2 : T.part dir s = T.take dir s := by simp [Tr.part, hpE]
        rw [hpE, e2]
        have hz2 : y.ins.length = 0 := by omega
        rw [hz2] at HC
        have HT : Hid (∀ w, Below W.heap.size W w → Calls Tryz.prog 125 #[P0 t, P0 (nb dir), .string s] w fun e w' => e = .returned (.tuple #[]) ∧ Hid (Tp lo N w' t (T.take dir s) ∧ Tx lo W w')) := fun w hb => by
          refine (take_any (B := B) (h.below hb) (by omega) hmw hd hy (fun e => hself d hd (by rw [e]; exact hm)) (hw.srt dir d hd) (by have := (hw.bnd dir d hd).2.2; omega) ⟨hy1, by have := (hw.bnd m y hy).1; omega⟩ ⟨(hw.fil m y hy).1, (hw.fil m y hy).2.1⟩ s hm).mono ?_
          rintro e w' ⟨h1, ev', h2, h3⟩
          exact ⟨h1, ⟨q, p, nb, ev', h2⟩, (Tx.of_below hb hlo).trans h3⟩
        obtain ⟨b, hbb⟩ : ∃ b, b = nb dir := ⟨_, rfl⟩
        obtain ⟨bm, hbm⟩ : ∃ bm, bm = nb m := ⟨_, rfl⟩
        rw [← hbb] at HD HFi HT
        rw [← hbm] at HC
        clear h hw hx hpE e2 hself hd hk1 hm hbb hbm hy hy1 hv hz hz2
        go_enter Tryz.func64, Tryz.ntmps64
        go_wp2_with (first | (go_at_call 116; refine (unhide HD _ (unhide hb0)).mono ?_; rintro e w1 ⟨rfl, hb1⟩) | (go_at_call 117; refine (unhide HFi _ (unhide hb1)).mono ?_; rintro e w2 ⟨rfl, hb2⟩; obtain ⟨f1, f2, f3⟩ := unhide HC w2 (unhide hb2)) | (go_at_call 125; refine (unhide HT _ (unhide hb2)).mono ?_; rintro e w3 ⟨rfl, FF⟩))
        go_ret
        exact ⟨rfl, unhide FF⟩
set_option maxRecDepth 100000 in
theorem yields_any (h : TrI lo N W t T q p nb ev) {old : Int} (hn : (kl old).wf = true) {y : Nd} (hy : T.nd old = some y) (td : Bool) (w : World) (hb : Below W.heap.size W w) :
    Calls Tryz.prog 133 #[P0 t, I old, .bool td] w fun e w' => e = .returned (I (T.yieldsE old td)) ∧ w' = w := by
  have h1 := h.below hb
  obtain ⟨c0, c1, c2, c3, cf⟩ := h1.cells
  have hlk := h1.look hn
  rw [hy] at hlk
  simp only [Option.isSome_some, if_true] at hlk
  obtain ⟨d0, -, -, -, -, -, -, d7, -, -, df⟩ := ndcells (h1.hn old y hy).1
  obtain ⟨ad, cap, hv⟩ := own_form (h1.hn old y hy).2
  rw [hv] at d7
  have hE : T.yieldsE old td = if td = true ∧ y.kind ≠ 1 then 37 else if td = false ∧ y.kind = 1 then 38 else if 0 < y.ins.length then 47 else 0 := by simp [Tr.yieldsE, Tr.kindOf, Tr.insOf, hy]
  obtain ⟨L, hL⟩ : ∃ L, L = y.ins.length := ⟨_, rfl⟩
  obtain ⟨kd, hkd⟩ : ∃ kd, kd = y.kind := ⟨_, rfl⟩
  obtain ⟨E, hEE⟩ : ∃ E, E = T.yieldsE old td := ⟨_, rfl⟩
  rw [← hL] at d7 hE
  rw [← hkd] at d0 hE
  rw [← hEE] at hE ⊢
  clear h h1 hy hv hL hkd hEE hb
  by_cases hk : kd = 1
  · subst hk
    cases td with
    | false =>
      simp at hE
      subst hE
      go_enter Tryz.func133, Tryz.ntmps133
      go_wp2_with fail
      go_ret
      exact ⟨rfl, rfl⟩
    | true =>
      by_cases hz : 0 < L
      · have hz2 : (0 : Int) < (L : Int) := by omega
        simp [hz] at hE
        subst hE
        go_enter Tryz.func133, Tryz.ntmps133
        go_wp2_with fail
        go_ret
        exact ⟨rfl, rfl⟩
      · obtain rfl : L = 0 := by omega
        simp at hE
        subst hE
        clear hz
        go_enter Tryz.func133, Tryz.ntmps133
        go_wp2_with fail
        go_ret
        exact ⟨rfl, rfl⟩
  · cases td with
    | true =>
      simp [hk] at hE
      subst hE
      go_enter Tryz.func133, Tryz.ntmps133
      go_wp2_with fail
      go_ret
      exact ⟨rfl, rfl⟩
    | false =>
      by_cases hz : 0 < L
      · have hz2 : (0 : Int) < (L : Int) := by omega
        simp [hk, hz] at hE
        subst hE
        go_enter Tryz.func133, Tryz.ntmps133
        go_wp2_with fail
        go_ret
        exact ⟨rfl, rfl⟩
      · obtain rfl : L = 0 := by omega
        simp [hk] at hE
        subst hE
        clear hz
        go_enter Tryz.func133, Tryz.ntmps133
        go_wp2_with fail
        go_ret
        exact ⟨rfl, rfl⟩
end
end Go.Proofs.YtlngeaacjbdmhaaGreat

namespace Go.Proofs.YtlngeaacjbdmhaaGreat
open Go.RowKit Go.Maps
theorem Tr.new_wk (nodes blocks : Nat) (hn : 1 ≤ nodes ∧ nodes ≤ 64) : Wk 1 (Tr.new nodes blocks) := by
  have hnd : ∀ k x, (Tr.new nodes blocks).nd k = some x → k = 1 ∧ x = ⟨1, 493, 0, 0, 1, 0, 1, [], 0, ⟨#[]⟩⟩ := fun k x h => by
    simp only [Tr.new] at h
    split at h
    · cases h; exact ⟨by assumption, rfl⟩
    · cases h
  refine ⟨fun k x h => ?_, fun k x h => ?_, fun k x h e he => ?_, Nat.le_refl _, fun k x h => ?_, fun k x h e he => ?_, fun k x h => ?_, fun k x h => ?_, fun k x h => ?_, fun k x h => ?_, fun k x h => ?_, by simp [Tr.new], hn.2⟩
  all_goals obtain ⟨rfl, rfl⟩ := hnd k x h
  · exact ⟨by decide, by simp [Tr.new]⟩
  · exact List.Pairwise.nil
  · simp at he
  · exact ⟨by decide, by decide, by decide⟩
  · simp at he
  · decide
  · exact ⟨by decide, by decide, fun _ => rfl⟩
  · decide
  · decide
  · rfl
def Tr.bare (nodes blocks : Nat) : Tr := ⟨nodes, 0, fun _ => none, ⟨blocks, []⟩⟩
theorem Tr.bare_wk (nodes blocks : Nat) (hn : nodes ≤ 64) : Wk 0 (Tr.bare nodes blocks) := by
  have hno : ∀ k x, (Tr.bare nodes blocks).nd k = some x → False := fun k x h => by simp [Tr.bare] at h
  exact ⟨fun k x h => (hno k x h).elim, fun k x h => (hno k x h).elim, fun k x h => (hno k x h).elim, Nat.le_refl _, fun k x h => (hno k x h).elim, fun k x h => (hno k x h).elim, fun k x h => (hno k x h).elim, fun k x h => (hno k x h).elim, fun k x h => (hno k x h).elim, fun k x h => (hno k x h).elim, fun k x h => (hno k x h).elim, by simp [Tr.bare], hn⟩
set_option maxRecDepth 100000 in
set_option maxHeartbeats 1000000 in
theorem new_good' (nodes blocks : Nat) (hn : 1 ≤ nodes ∧ nodes ≤ 64) (hb : blocks ≤ 256) (w : World) :
    Calls Tryz.prog 16 #[I (nodes : Int), I (blocks : Int)] w fun e w' => ∃ t, e = .returned (.tuple #[P0 t, I 0]) ∧ Tp w.heap.size blocks w' t (Tr.new nodes blocks) ∧ Below w.heap.size w w' := by
  have HN := hide (new_good blocks hb w)
  have hmm := @run_makeMap Tryz.prog
  have q1 : ¬ ((nodes : Int) < 1) := by omega
  have q2 : ¬ ((64 : Int) < (nodes : Int)) := by omega
  have HNN := hide hn
  clear hn
  go_enter Tryz.func16, Tryz.ntmps16
  go_wp2_with (go_at_call 59; refine (unhide HN).mono ?_; rintro e w1 ⟨p, rfl, hp, hB1⟩; have HP := hide hp; have HB := hide hB1; clear hp hB1)
  obtain ⟨V, hV⟩ : ∃ V, V = (w1.alloc (Obj.map #[] 0)).alloc (Obj.cells #[I (nodes : Int), Value.int IntKind.i64 0, Value.map (some w1.heap.size), P0 p] 125) := ⟨_, rfl⟩
  rw [← hV]
  have hs1 := (unhide HB).size
  have hBV : Below w1.heap.size w1 V := by rw [hV]; exact ((Below.refl _ w1).alloc (Nat.le_refl _) _).alloc (by simp) _
  have hsz : V.heap.size = w1.heap.size + 2 := by rw [hV]; simp
  have ht : V.heap[w1.heap.size + 1]? = some (.cells #[I (nodes : Int), Value.int IntKind.i64 0, Value.map (some w1.heap.size), P0 p] 125) := by
    have := heap_alloc_new (w1.alloc (Obj.map #[] 0)) (Obj.cells #[I (nodes : Int), Value.int IntKind.i64 0, Value.map (some w1.heap.size), P0 p] 125)
    simp only [World.size_alloc] at this
    rw [hV]; exact this
  have hmp : Mp V w1.heap.size 0 (fun _ => none) := by rw [hV]; exact (Mp.made w1).alloc _
  have TV : TrI w.heap.size blocks V (w1.heap.size + 1) (Tr.bare nodes blocks) w1.heap.size p (fun _ => 0) (fun _ => .slice none 0 0) := by
    refine ⟨ht, (hmp.mono (by omega)).congr fun k => rfl, fun k x h => by simp [Tr.bare] at h, fun j k x y h => by simp [Tr.bare] at h, ?_, ⟨by omega, by omega, by omega, fun k x h => by simp [Tr.bare] at h⟩⟩
    exact (unhide HP).rebase hBV (Nat.le_refl _) fun b hb => .inr ⟨by rw [hb]; exact Nat.le_refl _, by rw [hb]; omega⟩
  have HA0 := add_any TV (Tr.bare_wk nodes blocks (unhide HNN).2) (by omega) 0 1 493 0 0 0 0 ⟨#[]⟩ (by decide)
  have HA : Hid (Calls Tryz.prog 60 #[Value.pointer (some ⟨w1.heap.size + 1, 0, none⟩), Value.agg #[Value.int IntKind.i64 0, Value.int IntKind.i64 1, Value.int IntKind.i64 493, Value.int IntKind.i64 0, Value.int IntKind.i64 0, Value.int IntKind.i64 0, Value.int IntKind.i64 0], Value.string ⟨#[]⟩] V fun e w2 => e = .returned (I 1) ∧ ∃ b, (w2.cell? ⟨w1.heap.size + 1, 2, none⟩ = some (.map (some w1.heap.size)) ∧ (Instr.lookup 123 (.map (some w1.heap.size)) (I 1) false).run Tryz.prog w2.drew = .ok (P0 b) w2.drew ∧ w2.cell? ⟨b, 4, none⟩ = some (I 0) ∧ w2.cell? ⟨b, 6, none⟩ = some (I 0) ∧ ∀ i, w2.frozen? ⟨b, i, none⟩ = false) ∧ Hid (∀ w3 : World, w3 = ((w2.setCell ⟨b, 4, none⟩ (I 1)).setCell ⟨b, 6, none⟩ (I 1)).drew → Tp w.heap.size blocks w3 (w1.heap.size + 1) (Tr.new nodes blocks) ∧ Below w.heap.size w w3)) := by
    refine HA0.mono ?_
    rintro e w2 ⟨h1, b, T2, X2⟩
    have hnd : ((Tr.bare nodes blocks).add 1 493 0 0 ⟨#[]⟩).nd 1 = some ⟨1, 493, 0, 0, 0, 0, 0, [], 0, ⟨#[]⟩⟩ := by simp [Tr.add, Tr.bare]; decide
    have hb2 := (T2.hn 1 _ hnd).1
    have hlk := (T2.below (below_drew (Below.refl _ w2))).look (n := 1) (wf_of (by omega))
    rw [hnd] at hlk
    simp only [Option.isSome_some, if_true] at hlk
    have hb1 : (if (1 : Int) = ((Tr.bare nodes blocks).made : Int) + 1 then b else 0) = b := rfl
    simp only [hb1] at hb2 hlk
    obtain ⟨-, -, -, -, d4, -, d6, -, -, -, df⟩ := ndcells hb2
    refine ⟨h1, b, ⟨T2.cells.2.2.1, hlk, d4, d6, df⟩, ?_⟩
    rintro w3 rfl
    obtain ⟨T3, X3⟩ := T2.turn (n := 1) (y := ⟨1, 493, 0, 0, 1, 0, 1, [], 0, ⟨#[]⟩⟩) (v := .slice none 0 0) (W' := ((w2.setCell ⟨b, 4, none⟩ (I 1)).setCell ⟨b, 6, none⟩ (I 1)).drew) hnd (by
        simp only [hb1]
        exact (((Fn.refl _ _ _).set 4 _).set 6 _).drew) (by
        simp only [hb1]
        exact (heap_set (heap_set hb2 4 _) 6 _)) ⟨rfl, .inl ⟨rfl, rfl⟩⟩ (.inl rfl)
    have e : ((Tr.bare nodes blocks).add 1 493 0 0 ⟨#[]⟩).set 1 (some ⟨1, 493, 0, 0, 1, 0, 1, [], 0, ⟨#[]⟩⟩) = Tr.new nodes blocks := by
      simp only [Tr.set, Tr.add, Tr.bare, Tr.new]
      congr 1
      funext k
      by_cases hk : k = 1
      · simp [hk]
      · simp [hk]
    rw [← e]
    exact ⟨⟨_, _, _, _, T3⟩, (unhide HB).trans (((hBV.mono hs1)).trans ((X2.trans X3).bel))⟩
  obtain ⟨tb, htb⟩ : ∃ tb, tb = w1.heap.size + 1 := ⟨_, rfl⟩
  obtain ⟨qb, hqb⟩ : ∃ qb, qb = w1.heap.size := ⟨_, rfl⟩
  rw [← htb] at HA ⊢
  rw [← hqb] at HA ⊢
  clear hV TV HA0 hmp ht hsz hBV hs1 htb hqb HP
  refine (unhide HA).mono ?_
  rintro e w2 ⟨rfl, b, ⟨y2, yl, y4, y6, yf⟩, FF⟩
  go_wp2_with fail
  go_region
  go_wp2_with fail
  go_ret2
  exact ⟨tb, rfl, unhide FF _ rfl⟩
theorem new_bad' (nodes blocks : Int) (h : nodes < 1 ∨ 64 < nodes ∨ blocks < 0 ∨ 256 < blocks) (w : World) : Calls Tryz.prog 16 #[I nodes, I blocks] w fun e w' => e = .returned (.tuple #[.pointer none, I 1]) ∧ Below w.heap.size w w' := by
  by_cases hb : blocks < 0 ∨ 256 < blocks
  · have HN := hide (new_bad blocks hb w)
    clear hb h
    go_enter Tryz.func16, Tryz.ntmps16
    go_wp2_with (go_at_call 59; refine (unhide HN).mono ?_; rintro e w1 ⟨rfl, rfl⟩)
    all_goals (go_ret2; exact ⟨rfl, Below.refl _ _⟩)
  · obtain ⟨m, rfl⟩ : ∃ m : Nat, blocks = (m : Int) := ⟨blocks.toNat, by omega⟩
    have HN := hide (new_good m (by omega) w)
    by_cases h1 : nodes < 1
    · clear hb h
      go_enter Tryz.func16, Tryz.ntmps16
      go_wp2_with (go_at_call 59; refine (unhide HN).mono ?_; rintro e w1 ⟨p, rfl, hp, hB⟩; have HB := hide hB; clear hp hB)
      all_goals (go_ret2; exact ⟨rfl, unhide HB⟩)
    · have h2 : 64 < nodes := by omega
      have h3 : 1 ≤ nodes := by omega
      clear hb h h1
      go_enter Tryz.func16, Tryz.ntmps16
      go_wp2_with (go_at_call 59; refine (unhide HN).mono ?_; rintro e w1 ⟨p, rfl, hp, hB⟩; have HB := hide hB; clear hp hB)
      all_goals (go_ret2; exact ⟨rfl, unhide HB⟩)
end Go.Proofs.YtlngeaacjbdmhaaGreat

namespace Go.Proofs.YtlngeaacjbdmhaaGreat
open Go.RowKit Go.Maps
def Tr.statV (T : Tr) (n : Int) (x : Nd) : Value := .agg #[I n, I x.kind, I x.mode, I x.uid, I x.gid, I (T.links x : Nat), I (T.size x : Nat)]
def stat0 : Value := .agg #[I 0, I 0, I 0, I 0, I 0, I 0, I 0]
def Tr.stat (T : Tr) (n : Int) : Value := match T.nd n with | some x => T.statV n x | none => stat0
section
variable {lo N : Nat} {W W' : World} {t : Nat} {T : Tr} {q p : Nat} {nb : Int → Nat} {ev : Int → Value} {B : Nat}
set_option maxHeartbeats 1000000 in
theorem tsize_any (h : TrI lo N W t T q p nb ev) (hw : Wk B T) (hB : B ≤ 900) {n : Int} {x : Nd} (hx : T.nd n = some x) :
    Calls Tryz.prog 109 #[P0 t, P0 (nb n)] W fun e w' => e = .returned (I (T.size x : Nat)) ∧ ∃ k, w' = W.drewN k := by
  obtain ⟨c0, c1, c2, c3, cf⟩ := h.cells
  obtain ⟨d0, -, -, -, -, -, -, d7, d8, d9, df⟩ := ndcells (h.hn n x hx).1
  obtain ⟨k1, k2⟩ := hw.knd n x hx
  have hfw : (kl x.file).wf = true := wf_of (by have := hw.fil n x hx; omega)
  unfold Tr.size
  by_cases hk2 : x.kind = 2
  · rw [hk2] at d0
    rw [if_pos hk2]
    have H : Hid (∀ j, Calls Tryz.prog 163 #[P0 p, I x.file] (W.drewN j) fun e w' => e = .returned (I (sizeO (T.pool.get x.file))) ∧ w' = W.drewN j) := fun j => size_any (h.pl.below (below_n W j)) hfw
    clear h hw hx d7 d9
    go_enter Tryz.func109, Tryz.ntmps109
    go_wp2_with fail
    go_quiet (first | (go_at_call 163; exact Calls.quiet_of_same (unhide H _)))
    go_wp2_with fail
    go_ret
    exact ⟨rfl, _, rfl⟩
  · rw [if_neg hk2]
    by_cases hk3 : x.kind = 3
    · rw [hk3] at d0
      rw [if_pos hk3]
      have ht := hw.txt n x hx
      clear h hw hx d7
      go_enter Tryz.func109, Tryz.ntmps109
      go_wp2_with fail
      go_ret
      exact ⟨rfl, 0, rfl⟩
    · rw [if_neg hk3]
      have hk1 : x.kind = 1 := by omega
      rw [hk1] at d0
      obtain ⟨a, cap, hv⟩ := own_form (h.hn n x hx).2
      rw [hv] at d7
      clear h hw hx hk2 hk3 hk1 hv
      go_enter Tryz.func109, Tryz.ntmps109
      go_wp2_with fail
      go_ret
      exact ⟨rfl, 0, rfl⟩
set_option maxRecDepth 100000 in
set_option maxHeartbeats 1000000 in
theorem stat_some (h : TrI lo N W t T q p nb ev) (hw : Wk B T) (hB : B ≤ 900) {n : Int} {x : Nd} (hx : T.nd n = some x) :
    Calls Tryz.prog 37 #[P0 t, I n] W fun e w' => e = .returned (.tuple #[T.statV n x, .bool true]) ∧ Below W.heap.size W w' := by
  obtain ⟨c0, c1, c2, c3, cf⟩ := h.cells
  have hl := fun o => (h.below ((Below.refl _ W).alloc (Nat.le_refl _) o)).look_ok (hw.wf hB hx)
  rw [hx] at hl
  simp only [Option.isSome_some, if_true] at hl
  have htl := lt_of_heap h.ht
  have hb := (h.hn n x hx).1
  obtain ⟨d0, d1, d2, d3, -, -, -, -, -, -, df⟩ := ndcells hb
  have HL : Hid (∀ w', Below W.heap.size W w' → Calls Tryz.prog 108 #[P0 t, P0 (nb n)] w' fun e w2 => e = .returned (I (T.links x : Nat)) ∧ Below w'.heap.size w' w2) := fun w' hB' => links_any (h.below hB') hw hB hx
  have HS : Hid (∀ w', Below W.heap.size W w' → Calls Tryz.prog 109 #[P0 t, P0 (nb n)] w' fun e w2 => e = .returned (I (T.size x : Nat)) ∧ ∃ k, w2 = w'.drewN k) := fun w' hB' => tsize_any (h.below hB') hw hB hx
  have HD : Hid (∀ w', Below W.heap.size W w' → w'.cell? ⟨nb n, 0, none⟩ = some (I x.kind) ∧ w'.cell? ⟨nb n, 1, none⟩ = some (I x.mode) ∧ w'.cell? ⟨nb n, 2, none⟩ = some (I x.uid) ∧ w'.cell? ⟨nb n, 3, none⟩ = some (I x.gid)) := fun w' hB' => by
    obtain ⟨e0, e1, e2, e3, -⟩ := ndcells ((hB'.block _ (lt_of_heap hb)).trans hb)
    exact ⟨e0, e1, e2, e3⟩
  have hB0 := hide (Below.refl W.heap.size W)
  unfold Tr.statV
  obtain ⟨L, hL⟩ : ∃ L : Int, L = ((T.links x : Nat) : Int) := ⟨_, rfl⟩
  obtain ⟨Z, hZ⟩ : ∃ Z : Int, Z = ((T.size x : Nat) : Int) := ⟨_, rfl⟩
  rw [← hL] at HL ⊢
  rw [← hZ] at HS ⊢
  obtain ⟨b, hb'⟩ : ∃ b, b = nb n := ⟨_, rfl⟩
  have hbl := lt_of_heap hb
  rw [← hb'] at hl d0 d1 d2 d3 df HL HS HD hbl
  clear h hw hx hb hL hZ hb' c0 c1 c3
  go_enter Tryz.func37, Tryz.ntmps37
  go_wp2_with fail
  obtain ⟨W0, hW0⟩ : ∃ W0, W0 = W.alloc (Obj.cells #[Value.int IntKind.i64 0, Value.int IntKind.i64 0, Value.int IntKind.i64 0, Value.int IntKind.i64 0, Value.int IntKind.i64 0, Value.int IntKind.i64 0, Value.int IntKind.i64 0] 33) := ⟨_, rfl⟩
  have hB1 : Below W.heap.size W W0 := by rw [hW0]; exact (Below.refl _ W).alloc (Nat.le_refl _) _
  have hR : W0.heap[W.heap.size]? = some (.cells #[Value.int IntKind.i64 0, Value.int IntKind.i64 0, Value.int IntKind.i64 0, Value.int IntKind.i64 0, Value.int IntKind.i64 0, Value.int IntKind.i64 0, Value.int IntKind.i64 0] 33) := by rw [hW0]; exact heap_alloc_new W _
  have hRl := lt_of_heap hR
  rw [← hW0]
  clear hW0 hl d0 d1 d2 d3 df cf c2
  obtain ⟨e0, e1, e2, e3⟩ := unhide HD W0 hB1
  have HB1 := hide hB1
  have HR := hide hR
  generalize hRR : W.heap.size = R at *
  have HRR := hide hRR
  clear hRR
  have HLL : Hid (Calls Tryz.prog 108 #[P0 t, P0 b] W0.drew fun e w2 => e = .returned (I L) ∧ Hid (Below R W w2) ∧ w2.heap[R]? = some (.cells #[Value.int IntKind.i64 0, Value.int IntKind.i64 0, Value.int IntKind.i64 0, Value.int IntKind.i64 0, Value.int IntKind.i64 0, Value.int IntKind.i64 0, Value.int IntKind.i64 0] 33)) := by
    refine (unhide HL W0.drew (below_drew hB1)).mono ?_
    rintro e w2 ⟨h1, h2⟩
    exact ⟨h1, (below_drew hB1).trans (h2.mono (Nat.le_of_lt hRl)), (h2.block R hRl).trans hR⟩
  have hne : b ≠ R := by omega
  have hne2 : R ≠ b := by omega
  clear hB1 hR HL
  go_region_held3 (fun w' => w'.cell? ⟨b, 0, none⟩ = some (I x.kind) ∧ w'.cell? ⟨b, 1, none⟩ = some (I x.mode) ∧ w'.cell? ⟨b, 2, none⟩ = some (I x.uid) ∧ w'.cell? ⟨b, 3, none⟩ = some (I x.gid)) (go_keep)
    (first
      | (go_at_call 108; refine (unhide HLL).mono ?_; rintro e w2 ⟨rfl, HB2, hR2⟩; obtain ⟨f0, f1, f2, f3⟩ := unhide HD w2 (unhide HB2); obtain ⟨r0, r1, r2, r3, r4, r5, r6, rf⟩ := cells7 hR2; have HR2 := hide hR2; clear hR2)
      | (go_at_call 109; refine (unhide HS _ (unhide HB2)).mono ?_; rintro e w3 ⟨rfl, k3, rfl⟩))
  obtain ⟨X, hX⟩ : ∃ X, X = ((((((((w2.drewN k3).setCell ⟨R, 0, none⟩ (.int .i64 n)).setCell ⟨R, 1, none⟩ (.int .i64 x.kind)).setCell ⟨R, 2, none⟩ (.int .i64 x.mode)).setCell ⟨R, 3, none⟩ (.int .i64 x.uid)).setCell ⟨R, 4, none⟩ (.int .i64 x.gid)).setCell ⟨R, 5, none⟩ (.int .i64 L)).setCell ⟨R, 6, none⟩ (.int .i64 Z)) := ⟨_, rfl⟩
  have hXR : X.heap[R]? = some (.cells #[I n, I x.kind, I x.mode, I x.uid, I x.gid, I L, I Z] 33) := by
    rw [hX, heap_set (heap_set (heap_set (heap_set (heap_set (heap_set (heap_set (W := w2.drewN k3) (unhide HR2) 0 _) 1 _) 2 _) 3 _) 4 _) 5 _) 6 _]
    rfl
  have hXB : Below R W X := by
    rw [hX]
    exact ((((((((below_dn (unhide HB2) k3).setCell (p := ⟨R, 0, none⟩) (Nat.le_refl _) _).setCell (p := ⟨R, 1, none⟩) (Nat.le_refl _) _).setCell (p := ⟨R, 2, none⟩) (Nat.le_refl _) _).setCell (p := ⟨R, 3, none⟩) (Nat.le_refl _) _).setCell (p := ⟨R, 4, none⟩) (Nat.le_refl _) _).setCell (p := ⟨R, 5, none⟩) (Nat.le_refl _) _).setCell (p := ⟨R, 6, none⟩) (Nat.le_refl _) _)
  rw [← hX]
  clear hX
  obtain ⟨x0, x1, x2, x3, x4, x5, x6, xf⟩ := cells7 hXR
  go_wp2_with fail
  refine bodyPost_ret (v := .tuple #[.agg #[I n, I x.kind, I x.mode, I x.uid, I x.gid, I L, I Z], .bool true]) ?_ rfl ?_
  · rw [results_cell_tmp rfl]
    go_simp
  · exact ⟨rfl, by rw [unhide HRR]; exact hXB⟩
set_option maxHeartbeats 1000000 in
theorem stat_none (h : TrI lo N W t T q p nb ev) {n : Int} (hn : (kl n).wf = true) (hx : T.nd n = none) :
    Calls Tryz.prog 37 #[P0 t, I n] W fun e w' => e = .returned (.tuple #[stat0, .bool false]) ∧ Below W.heap.size W w' := by
  obtain ⟨c0, c1, c2, c3, cf⟩ := h.cells
  have hl := fun o => (h.below ((Below.refl _ W).alloc (Nat.le_refl _) o)).look_ok hn
  rw [hx] at hl
  simp only [Option.isSome_none, Bool.false_eq_true, if_false] at hl
  have htl := lt_of_heap h.ht
  clear h hx c0 c1 c3
  go_enter Tryz.func37, Tryz.ntmps37
  go_wp2_with fail
  obtain ⟨X, hX⟩ : ∃ X, X = W.alloc (Obj.cells #[Value.int IntKind.i64 0, Value.int IntKind.i64 0, Value.int IntKind.i64 0, Value.int IntKind.i64 0, Value.int IntKind.i64 0, Value.int IntKind.i64 0, Value.int IntKind.i64 0] 33) := ⟨_, rfl⟩
  have hXR : X.heap[W.heap.size]? = some (.cells #[Value.int IntKind.i64 0, Value.int IntKind.i64 0, Value.int IntKind.i64 0, Value.int IntKind.i64 0, Value.int IntKind.i64 0, Value.int IntKind.i64 0, Value.int IntKind.i64 0] 33) := by rw [hX]; exact heap_alloc_new W _
  have hXB : Below W.heap.size W X := by rw [hX]; exact (Below.refl _ W).alloc (Nat.le_refl _) _
  rw [← hX]
  clear hX hl
  obtain ⟨x0, x1, x2, x3, x4, x5, x6, xf⟩ := cells7 hXR
  refine bodyPost_ret (v := .tuple #[stat0, .bool false]) ?_ rfl ⟨rfl, hXB⟩
  rw [results_cell_tmp rfl]
  go_simp
  rfl
theorem stat_any (h : TrI lo N W t T q p nb ev) (hw : Wk B T) (hB : B ≤ 900) {n : Int} (hn : (kl n).wf = true) :
    Calls Tryz.prog 37 #[P0 t, I n] W fun e w' => e = .returned (.tuple #[T.stat n, .bool (T.nd n).isSome]) ∧ Below W.heap.size W w' := by
  unfold Tr.stat
  cases hx : T.nd n with
  | none => exact stat_none h hn hx
  | some x => exact stat_some h hw hB hx
end
end Go.Proofs.YtlngeaacjbdmhaaGreat

namespace Go.Proofs.YtlngeaacjbdmhaaGreat
open Go.RowKit Go.Maps
theorem Tr.stat_form (T : Tr) (n : Int) : ∃ a b c d e f g, T.stat n = stV a b c d e f g := by
  simp only [Tr.stat]
  split
  · exact ⟨_, _, _, _, _, _, _, rfl⟩
  · exact ⟨_, _, _, _, _, _, _, rfl⟩
structure Tq (lo N : Nat) (W : World) (t : Nat) (T : Tr) (B : Nat) : Prop where
  p : Tp lo N W t T
  f : Wf B T
section
variable {lo N : Nat} {W W' : World} {t : Nat} {T : Tr} {B : Nat}
theorem Tq.below (h : Tq lo N W t T B) (g : Below W.heap.size W W') : Tq lo N W' t T B := ⟨h.p.below g, h.f⟩
theorem Tq.lo_le (h : Tq lo N W t T B) : lo ≤ W.heap.size := h.p.lo_le
theorem Tq.mono (h : Tq lo N W t T B) {B' : Nat} (hb : B ≤ B') : Tq lo N W t T B' := ⟨h.p, h.f.mono hb⟩
theorem Tq.tb (h : Tq lo N W t T B) (g : Below W.heap.size W W') : Tq lo N W' t T B ∧ Tx lo W W' := ⟨h.below g, .of_below g h.lo_le⟩
theorem Tq.wf (h : Tq lo N W t T B) {n : Int} (hB : B ≤ 880) {x : Nd} (hx : T.nd n = some x) : (kl n).wf = true := h.f.k.wf (by omega) hx
theorem new_Q (nodes blocks : Nat) (hn : 1 ≤ nodes ∧ nodes ≤ 64) (hb : blocks ≤ 256) (w : World) :
    Calls Tryz.prog 16 #[I (nodes : Int), I (blocks : Int)] w fun e w' => ∃ t, e = .returned (.tuple #[P0 t, I 0]) ∧ Hid (Tq w.heap.size blocks w' t (Tr.new nodes blocks) 1) ∧ Hid (Below w.heap.size w w') :=
  (new_good' nodes blocks hn hb w).mono fun _ _ ⟨t, h1, h2, h3⟩ => ⟨t, h1, ⟨h2, Wf.new _ _ (Tr.new_wk nodes blocks hn)⟩, h3⟩
theorem make_Q (h : Tq lo N W t T B) (hB : B ≤ 880) {dir : Int} (hn : (kl dir).wf = true) (s : ByteArray) (a kind mode uid gid f g : Int) (text : ByteArray) (hz : text.size ≤ 281474976710656) (x y : Int) (T' : Tr) (hx : T.makeN dir s kind text = x) (hy : T.makeE dir s kind text = y) (hT : T.make dir s kind mode uid gid text = T') :
    Calls Tryz.prog 62 #[P0 t, I dir, .string s, stV a kind mode uid gid f g, .string text] W fun e w' => e = .returned (.tuple #[I x, I y]) ∧ Hid (Tq lo N w' t T' (B + 2)) ∧ Hid (Tx lo W w') := by
  obtain ⟨⟨q, p, nb, ev, h1⟩, h2⟩ := h
  refine (make_any h1 h2.k (by omega) hn s a kind mode uid gid f g text hz).mono ?_
  rintro e w' ⟨rfl, h3, h4⟩
  rw [hx, hy]
  have := h2.make dir s kind mode uid gid text hz
  rw [hT] at this h3
  exact ⟨rfl, ⟨h3, this⟩, h4⟩
theorem part_Q (h : Tq lo N W t T B) (hB : B ≤ 880) {dir : Int} (hn : (kl dir).wf = true) (s : ByteArray) (y : Int) (T' : Tr) (hy : T.partE dir s = y) (hT : T.part dir s = T') :
    Calls Tryz.prog 64 #[P0 t, I dir, .string s] W fun e w' => e = .returned (I y) ∧ Hid (Tq lo N w' t T' B) ∧ Hid (Tx lo W w') := by
  obtain ⟨⟨q, p, nb, ev, h1⟩, h2⟩ := h
  refine (part_any h1 h2.k (by omega) hn s (fun d hd e => h2.noself hd (getE_some e))).mono ?_
  rintro e w' ⟨rfl, h3, h4⟩
  rw [hy]
  have := h2.part dir s
  rw [hT] at this h3
  exact ⟨rfl, ⟨h3, this⟩, h4⟩
theorem hold_Q (h : Tq lo N W t T B) (hB : B ≤ 880) {n : Int} (hn : (kl n).wf = true) (y : Int) (T' : Tr) (hy : T.holdE n = y) (hT : T.hold n = T') :
    Calls Tryz.prog 63 #[P0 t, I n] W fun e w' => e = .returned (I y) ∧ Hid (Tq lo N w' t T' (B + 1)) ∧ Hid (Tx lo W w') := by
  obtain ⟨⟨q, p, nb, ev, h1⟩, h2⟩ := h
  refine (hold_any h1 hn (fun x hx => by have := (h2.k.bnd n x hx).2.1; omega)).mono ?_
  rintro e w' ⟨rfl, ev', h3, h4⟩
  rw [hy]
  have := h2.hold n
  rw [hT] at this h3
  exact ⟨rfl, ⟨⟨q, p, nb, ev', h3⟩, this⟩, h4⟩
theorem loose_Q (h : Tq lo N W t T B) (hB : B ≤ 880) {n : Int} (hn : (kl n).wf = true) (y : Int) (T' : Tr) (hy : T.looseE n = y) (hT : T.loose n = T') :
    Calls Tryz.prog 72 #[P0 t, I n] W fun e w' => e = .returned (I y) ∧ Hid (Tq lo N w' t T' B) ∧ Hid (Tx lo W w') := by
  obtain ⟨⟨q, p, nb, ev, h1⟩, h2⟩ := h
  refine (loose_any (B := B) h1 (by omega) hn (fun x hx => ⟨by have := (h2.k.bnd n x hx).2.1; omega, (h2.k.fil n x hx).1, (h2.k.fil n x hx).2.1⟩)).mono ?_
  rintro e w' ⟨rfl, ev', h3, h4⟩
  rw [hy]
  have := h2.loose n
  rw [hT] at this h3
  exact ⟨rfl, ⟨⟨q, p, nb, ev', h3⟩, this⟩, h4⟩
theorem find_Q (h : Tq lo N W t T B) (hB : B ≤ 880) {n : Int} (hn : (kl n).wf = true) (s : ByteArray) (x : Int) (f : Bool) (hx : (T.findN n s).getD 0 = x) (hf : (T.findN n s).isSome = f) :
    Calls Tryz.prog 55 #[P0 t, I n, .string s] W fun e w' => e = .returned (.tuple #[I x, .bool f]) ∧ Hid (Tq lo N w' t T B) ∧ Hid (Below W.heap.size W w') := by
  have h' := h
  obtain ⟨⟨q, p, nb, ev, h1⟩, h2⟩ := h
  refine (tfind_any h1 h2.k (by omega) hn s).mono ?_
  rintro e w' ⟨rfl, h3⟩
  rw [hx, hf]
  exact ⟨rfl, h'.below h3, h3⟩
theorem stat_Q (h : Tq lo N W t T B) (hB : B ≤ 880) {n : Int} (hn : (kl n).wf = true) (v : Value) (f : Bool) (hx : T.stat n = v) (hf : (T.nd n).isSome = f) :
    Calls Tryz.prog 37 #[P0 t, I n] W fun e w' => e = .returned (.tuple #[v, .bool f]) ∧ Hid (Tq lo N w' t T B) ∧ Hid (Below W.heap.size W w') := by
  have h' := h
  obtain ⟨⟨q, p, nb, ev, h1⟩, h2⟩ := h
  refine (stat_any h1 h2.k (by omega) hn).mono ?_
  rintro e w' ⟨rfl, h3⟩
  rw [hx, hf]
  exact ⟨rfl, h'.below h3, h3⟩
theorem left_Q (h : Tq lo N W t T B) (hB : B ≤ 880) (y : Int) (hy : T.left = y) :
    Calls Tryz.prog 86 #[P0 t] W fun e w' => e = .returned (I y) ∧ Hid (Tq lo N w' t T B) ∧ Hid (Below W.heap.size W w') := by
  have h' := h
  obtain ⟨⟨q, p, nb, ev, h1⟩, h2⟩ := h
  refine (left_any h1 h2.k (by omega)).mono ?_
  rintro e w' ⟨rfl, k, rfl⟩
  rw [hy]
  exact ⟨rfl, h'.below (below_n _ k), below_n _ k⟩
theorem Tx.fst {u v : World} (h : Tx lo u v) {w : World} {B0 : Nat} (g : Below B0 w u) (hb : B0 ≤ lo) : Below B0 w v := g.trans (h.bel.mono hb)
end
end Go.Proofs.YtlngeaacjbdmhaaGreat
