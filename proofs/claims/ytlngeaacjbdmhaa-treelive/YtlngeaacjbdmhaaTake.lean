/-
  The contract of take: a name less.
-/
import Derived.Test.YtlngeaacjbdmhaaLeave
namespace Go.Proofs.Ytlngeaacjbdmhaa
open Go.RowKit Go.Maps

section
variable {lo N : Nat} {W W' : World} {t : Nat} {T : Tr} {q p : Nat} {nb : Int → Nat} {ev : Int → Value} {B : Nat}
set_option maxRecDepth 100000 in
set_option maxHeartbeats 1000000 in
theorem take_any (h : TrI lo N W t T q p nb ev) (hB : B ≤ 900) {dir n : Int} {d x : Nd} (hwn : (kl n).wf = true) (hd : T.nd dir = some d) (hx : T.nd n = some x) (hdn : dir ≠ n) (hs : Srt d.ins) (hl : d.ins.length < 900) (hnm : 0 < x.names ∧ x.names < 900) (hf : 0 ≤ x.file ∧ x.file ≤ B) (s : ByteArray) (hg : getE d.ins s = some n) :
    Calls Try.prog 31 #[P0 t, P0 (nb dir), .string s] W fun e w' => e = .returned (.tuple #[]) ∧ ∃ ev', TrI lo N w' t (T.take dir s) q p nb ev' ∧ Tx lo W w' := by
  obtain ⟨c0, c1, c2, c3, cf⟩ := h.cells
  obtain ⟨hb, hr⟩ := h.hn dir d hd
  have hne := (h.dn dir n d x hd hx hdn).1
  obtain ⟨b, hbe⟩ : ∃ b, b = nb dir := ⟨_, rfl⟩
  obtain ⟨bx, hbxe⟩ : ∃ bx, bx = nb n := ⟨_, rfl⟩
  rw [← hbe] at hb hne ⊢
  rw [← hbxe] at hne
  obtain ⟨P, hP⟩ : ∃ P, P = pos d.ins s := ⟨_, rfl⟩
  have hat := (hs.at_pos s).2 n hg
  rw [← hP] at hat
  obtain ⟨L, hL⟩ : ∃ L, L = d.ins.length := ⟨_, rfl⟩
  have hPL : P < L := by rw [hL]; exact (List.getElem?_eq_some_iff.1 hat).1
  have hlo := h.bd.2.2.1
  have hbl := lt_of_heap hb
  have HP := hide (place_any hb hr hs (by omega) s)
  rw [← hP, hg] at HP
  obtain ⟨g, cap, hv, hcap, hcm, hgl, hgW, hcells⟩ : ∃ g cap, ev dir = .slice (some ⟨g, 0, none⟩) L cap ∧ L ≤ cap ∧ cap ≤ maxLen ∧ lo ≤ g ∧ g < W.heap.size ∧ ∀ (i : Nat) (a : ByteArray) (n : Int), d.ins[i]? = some (a, n) → W.cell? ⟨g, i * 2, none⟩ = some (.string a) ∧ W.cell? ⟨g, i * 2 + 1, none⟩ = some (.int .i64 n) := by
    rcases hr.open' with ⟨_, hz⟩ | ⟨g, cap, h1, h2, h3, h4, h5, h6⟩
    · rw [hz] at hL; simp at hL; omega
    · exact ⟨g, cap, by rw [hL]; exact h1, by rw [hL]; exact h2, h3, h4, h5, h6⟩
  have hmx : cap ≤ 9223372036854775807 := by unfold maxLen at hcm; omega
  have HB7 : Hid (∀ w2, Below W.heap.size W w2 → w2.cell? ⟨b, 7, none⟩ = some (.slice (some ⟨g, 0, none⟩) L cap) ∧ (∀ i, w2.frozen? ⟨b, i, none⟩ = false) ∧ w2.cell? ⟨g, P * 2, none⟩ = some (.string s) ∧ w2.cell? ⟨g, P * 2 + 1, none⟩ = some (.int .i64 n)) := fun w2 hB2 => by
    obtain ⟨-, -, -, -, -, -, -, d7, -, -, df⟩ := ndcells ((hB2.block _ hbl).trans hb)
    obtain ⟨k1, k2⟩ := hcells P s n hat
    have hgw := hB2.block g hgW
    exact ⟨by rw [d7, hv], df, (cell_same hgw _).trans k1, (cell_same hgw _).trans k2⟩
  have HI : Hid (∀ w2, Below W.heap.size W w2 → Calls Try.prog 46 #[.slice (some ⟨g, 0, none⟩) L cap, .int .i64 (P : Int), .int .i64 ((P : Int) + 1)] w2 fun e w3 => e = .returned (.slice (some ⟨g, 0, none⟩) (L - 1) cap) ∧ (w3.cell? ⟨b, 7, none⟩ = some (.slice (some ⟨g, 0, none⟩) L cap) ∧ ∀ i, w3.frozen? ⟨b, i, none⟩ = false) ∧
      ∃ V5, V5 = w3.setCell ⟨b, 7, none⟩ (.slice (some ⟨g, 0, none⟩) (L - 1) cap) ∧ (V5.cell? ⟨t, 2, none⟩ = some (.map (some q)) ∧ (Instr.lookup 55 (.map (some q)) (I n) false).run Try.prog V5 = .ok (P0 bx) V5 ∧ V5.cell? ⟨bx, 4, none⟩ = some (I (x.names : Int)) ∧ ∀ i, V5.frozen? ⟨bx, i, none⟩ = false) ∧
        Hid (Calls Try.prog 34 #[P0 t, I n] (V5.setCell ⟨bx, 4, none⟩ (I ((x.names : Int) - 1))) fun e w' => e = .returned (.tuple #[]) ∧ ∃ ev', TrI lo N w' t (T.take dir s) q p nb ev' ∧ Tx lo W w')) := fun w2 hB2 => by
    have hown2 : Ro lo w2 (ev dir) d.ins := hr.below hB2
    have hI := delete_any lo g L cap P d.ins w2 hL.symm (by rw [← hv, hL]; exact hown2) hPL
    refine hI.mono ?_
    rintro e w3 ⟨rfl, own3, del⟩
    have hbb : w2.heap[b]? = some (.cells (ndC d (ev dir)) 61) := (hB2.block _ hbl).trans hb
    have hgb : b ≠ g := fun e => by
      obtain ⟨_, cur, hc⟩ := hr.blk (g := g) (by rw [hv]; rfl)
      rw [← e, hb] at hc
      simp [ndC] at hc
    have h3b : w3.heap[b]? = some (.cells (ndC d (ev dir)) 61) := (del.blk b hgb).trans hbb
    have FN : Fn (nb dir) (ev dir).ownBlock W (w3.setCell ⟨nb dir, 7, none⟩ (.slice (some ⟨g, 0, none⟩) (L - 1) cap)) := by
      refine Fn.set ?_ 7 _
      have hB3 : Fn (nb dir) (ev dir).ownBlock W w2 := Fn.of_below hB2
      exact ⟨del.os.trans hB3.os, del.tape.trans hB3.tape, del.output.trans hB3.output, by rw [del.size]; exact hB3.size, fun k hk h1 h2 => (del.blk k (fun e => h2 (by rw [e, hv]; rfl))).trans (hB3.blk k hk h1 h2)⟩
    have hy : (w3.setCell ⟨nb dir, 7, none⟩ (.slice (some ⟨g, 0, none⟩) (L - 1) cap)).heap[nb dir]? = some (.cells (ndC { d with ins := delE d.ins s } (.slice (some ⟨g, 0, none⟩) (L - 1) cap)) 61) := by
      rw [← hbe, heap_set h3b]; rfl
    have hdl : (delE d.ins s).length = L - 1 := by have := delE_length hs hg; omega
    have hr5 : Ro lo (w3.setCell ⟨nb dir, 7, none⟩ (.slice (some ⟨g, 0, none⟩) (L - 1) cap)) (.slice (some ⟨g, 0, none⟩) (L - 1) cap) (delE d.ins s) := by
      have h1 : Ro lo w3 (.slice (some ⟨g, 0, none⟩) (L - 1) cap) (delE d.ins s) := by
        show World.ownsRow _ _ _ _ _ _ _
        rw [hdl]
        have e : delE d.ins s = d.ins.take P ++ d.ins.drop (P + 1) := by rw [hP]; rfl
        rw [e]
        exact own3
      refine h1.same fun g' hg' => Below.heap_setCell _ _ _ _ fun e => ?_
      obtain ⟨_, cur, hc⟩ := h1.blk hg'
      rw [show g' = b from e.trans hbe.symm, h3b] at hc
      simp [ndC] at hc
    obtain ⟨T5, X5⟩ := h.turn hd FN hy hr5 (.inl (by rw [hv]; rfl))
    have hx5 : (T.set dir (some { d with ins := delE d.ins s })).nd n = some x := by rw [Tr.set_other _ _ (Ne.symm hdn)]; exact hx
    rw [← hbe] at T5 X5
    obtain ⟨hbx5, hrx5⟩ := T5.hn n x hx5
    rw [← hbxe] at hbx5
    obtain ⟨-, -, -, -, y4, -, -, -, -, -, yf⟩ := ndcells hbx5
    obtain ⟨-, -, -, -, -, -, -, z7, -, -, zf⟩ := ndcells h3b
    have hlk := T5.look hwn
    rw [hx5] at hlk
    simp only [Option.isSome_some, if_true] at hlk
    rw [← hbxe] at hlk
    refine ⟨rfl, ⟨by rw [z7, hv], zf⟩, _, rfl, ⟨T5.cells.2.2.1, hlk, y4, yf⟩, ?_⟩
    obtain ⟨T6, X6⟩ := T5.turn (y := { x with names := x.names - 1 }) (v := if n = dir then (.slice (some ⟨g, 0, none⟩) (L - 1) cap) else ev n) hx5 (W' := (w3.setCell ⟨b, 7, none⟩ (.slice (some ⟨g, 0, none⟩) (L - 1) cap)).setCell ⟨nb n, 4, none⟩ (I ((x.names : Int) - 1))) ((Fn.refl _ _ _).set 4 _) (by rw [← hbxe, heap_set hbx5]; simp [ndC]; omega) (hrx5.same fun g hg => Below.heap_setCell _ _ _ _ (fun e => by obtain ⟨_, cur, hc⟩ := hrx5.blk hg; rw [show g = bx from e.trans hbxe.symm, hbx5] at hc; simp [ndC] at hc)) (.inl rfl)
    rw [← hbxe] at T6 X6
    refine (leave_any (B := B) T6 hB hwn (Tr.set_same _ _ _) hf).mono ?_
    rintro e w' ⟨h1, h2, h3⟩
    have e5 : T.take dir s = (((T.set dir (some { d with ins := delE d.ins s })).set n (some { x with names := x.names - 1 })).leave n) := by
      simp only [Tr.take, hd, hg]
      simp only [Tr.less, hx5]
    rw [e5]
    exact ⟨h1, _, h2, X5.trans (X6.trans h3)⟩
  obtain ⟨m, hm⟩ : ∃ m, m = x.names := ⟨_, rfl⟩
  rw [← hm] at HI
  have hm1 : (m : Int) < 900 := by omega
  have hm0 : (0 : Int) < (m : Int) := by omega
  have q0 : (0 : Int) ≤ (P : Int) := by omega
  have q1 : (P : Int) < (L : Int) := by omega
  have q2 : (P : Int) < 900 := by omega
  have HPLL := hide hPL
  clear h hd hx hb hr hP hm hbe hbxe hs hl hnm hf hg hat hL hv hcells hcm hB hgl c0 c1 c2 c3 cf hcap
  go_enter Try.func31, Try.ntmps31
  go_wp2_with (go_at_call 44; refine (unhide HP).mono ?_; rintro e V ⟨rfl, hBV⟩; obtain ⟨v7, vf, w1, w2⟩ := unhide HB7 V hBV; have HBV := hide hBV; clear hBV)
  refine (unhide HI V (unhide HBV)).mono ?_
  rintro e w3 ⟨rfl, ⟨x7, xf⟩, V5, hV5, ⟨z2, zl, z4, zf⟩, FF⟩
  replace hV5 := hV5.symm
  go_wp2_with (go_at_call 34; refine (unhide FF).mono ?_; rintro e w1 ⟨rfl, GG⟩; have HG := hide GG; clear GG)
  go_end0
  exact ⟨rfl, unhide HG⟩
end
end Go.Proofs.Ytlngeaacjbdmhaa
