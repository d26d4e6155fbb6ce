/-
  The contract of give: a name more.
-/
import Derived.Test.YtlngeaacjbdmhaaAdd
import Derived.Deep.RegionWith
namespace Go.Proofs.Ytlngeaacjbdmhaa
open Go.RowKit Go.Maps

section
variable {lo N : Nat} {W W' : World} {t : Nat} {T : Tr} {q p : Nat} {nb : Int → Nat} {ev : Int → Value} {B : Nat}
set_option maxRecDepth 100000 in
set_option maxHeartbeats 1000000 in
theorem give_any (h : TrI lo N W t T q p nb ev) {dir n : Int} {d x : Nd} (hwd : (kl dir).wf = true) (hwn : (kl n).wf = true) (hd : T.nd dir = some d) (hx : T.nd n = some x) (hdn : dir ≠ n) (hs : Srt d.ins) (hl : d.ins.length < 900) (hnm : x.names < 900) (s : ByteArray) (hz : s.size ≤ 281474976710656) :
    Calls Try.prog 29 #[P0 t, I dir, .string s, I n] W fun e w' => e = .returned (.tuple #[]) ∧ ∃ ev', TrI lo N w' t (T.give dir s n) q p nb ev' ∧ Tx lo W w' := by
  obtain ⟨c0, c1, c2, c3, cf⟩ := h.cells
  have hlk1 := (h.below (below_drew (Below.refl _ W))).look hwd
  have hlk2 := (h.below (below_drew (Below.refl _ W))).look hwn
  rw [hd] at hlk1
  rw [hx] at hlk2
  simp only [Option.isSome_some, if_true] at hlk1 hlk2
  obtain ⟨hb, hr⟩ := h.hn dir d hd
  obtain ⟨hbx, hrx⟩ := h.hn n x hx
  have hne := (h.dn dir n d x hd hx hdn).1
  obtain ⟨b, hbe⟩ : ∃ b, b = nb dir := ⟨_, rfl⟩
  obtain ⟨bx, hbxe⟩ : ∃ bx, bx = nb n := ⟨_, rfl⟩
  rw [← hbe] at hlk1 hb hne
  rw [← hbxe] at hlk2 hbx hne
  obtain ⟨P, hP⟩ : ∃ P, P = pos d.ins s := ⟨_, rfl⟩
  obtain ⟨f, hf⟩ : ∃ f, f = (getE d.ins s).isSome := ⟨_, rfl⟩
  have HP : Hid (∀ k, Calls Try.prog 44 #[P0 b, .string s] (W.drewN k) fun e w' => e = .returned (.tuple #[I (P : Int), .bool f]) ∧ Below W.heap.size W w') := fun k => by
    rw [hP, hf]
    exact (place_any (lo := lo) (W := W.drewN k) hb (hr.below (below_n W k)) hs (by omega) s).mono fun e w' ⟨h1, h2⟩ => ⟨h1, (below_n W k).trans h2⟩
  have HC := hide (fun w => clone_any s w hz)
  have hbl := lt_of_heap hb
  have hlo := h.bd.2.2.1
  obtain ⟨L, hL⟩ : ∃ L, L = d.ins.length := ⟨_, rfl⟩
  have hPL : P ≤ L := by rw [hP, hL]; exact pos_le _ _
  obtain ⟨vD, hvD⟩ : ∃ vD, vD = ev dir := ⟨_, rfl⟩
  have hown : vD = .slice none 0 0 ∨ ∃ g cap, vD = .slice (some ⟨g, 0, none⟩) L cap := by
    rw [hvD]
    obtain ⟨-, ⟨e1, _⟩ | ⟨g, cap, cur, e1, _⟩⟩ := hr
    · exact .inl e1
    · exact .inr ⟨g, cap, by rw [e1, hL]⟩
  have HB7 : Hid (∀ w2, Below W.heap.size W w2 → w2.cell? ⟨b, 7, none⟩ = some vD ∧ ∀ i, w2.frozen? ⟨b, i, none⟩ = false) := fun w2 hB2 => by
    obtain ⟨-, -, -, -, -, -, -, d7, -, -, df⟩ := ndcells ((hB2.block _ hbl).trans hb)
    exact ⟨by rw [hvD]; exact d7, df⟩
  have HI : Hid (∀ w2, Below W.heap.size W w2 → Calls Try.prog 45 #[vD, .int .i64 (P : Int), .slice (some ⟨w2.heap.size, 0, none⟩) 1 1] (w2.alloc (.cells #[.string s, .int .i64 n] 92)) fun e w3 => ∃ v', (∃ g c, v' = .slice (some ⟨g, 0, none⟩) (L + 1) c) ∧ e = .returned v' ∧ (w3.cell? ⟨b, 7, none⟩ = some vD ∧ ∀ i, w3.frozen? ⟨b, i, none⟩ = false) ∧
      ∃ V5, V5 = w3.setCell ⟨b, 7, none⟩ v' ∧ (V5.cell? ⟨bx, 0, none⟩ = some (I x.kind) ∧ V5.cell? ⟨bx, 4, none⟩ = some (I (x.names : Int)) ∧ V5.cell? ⟨bx, 6, none⟩ = some (I x.up) ∧ ∀ i, V5.frozen? ⟨bx, i, none⟩ = false) ∧ Hid (TrI lo N V5 t (T.set dir (some { d with ins := putE d.ins s n })) q p nb (fun k => if k = dir then v' else ev k) ∧ Tx lo W V5)) := fun w2 hB2 => by
    have hBa : Below W.heap.size W (w2.alloc (.cells #[.string s, .int .i64 n] 92)) := hB2.alloc hB2.size _
    have hvb : (w2.alloc (.cells #[.string s, .int .i64 n] 92)).heap[w2.heap.size]? = some (.cells #[.string s, .int .i64 n] 92) := heap_alloc_new w2 _
    have hown2 : Ro lo (w2.alloc (.cells #[.string s, .int .i64 n] 92)) (ev dir) d.ins := hr.below hBa
    have hnv : some w2.heap.size ≠ (ev dir).ownBlock := fun e => by
      obtain ⟨_, cur, hc⟩ := hr.blk e.symm
      have := lt_of_heap hc
      have := hB2.size
      omega
    have hI := insert_any lo (ev dir) d.ins.length P d.ins s n w2.heap.size _ rfl hown2 (by omega) hnv hvb (by omega) (Nat.le_trans hlo hBa.size)
    rw [← hvD] at hI
    refine hI.mono ?_
    rintro e w3 ⟨v', rfl, ins⟩
    rw [hvD] at ins
    have hbb : (w2.alloc (.cells #[.string s, .int .i64 n] 92)).heap[b]? = some (.cells (ndC d (ev dir)) 61) := (hBa.block _ hbl).trans hb
    have hno : ∀ (k : Nat) (cs : Array Value), W.heap[k]? = some (.cells cs 61) → some k ≠ (ev dir).ownBlock := fun k cs e => h.own hd e (by decide)
    have h3b : w3.heap[b]? = some (.cells (ndC d (ev dir)) 61) := (ins.gr.block b (lt_of_heap hbb) (hno b _ hb)).trans hbb
    have FN : Fn (nb dir) (ev dir).ownBlock W (w3.setCell ⟨nb dir, 7, none⟩ v') := ((Fn.of_below hBa).grown ins.gr).set 7 v'
    have hy : (w3.setCell ⟨nb dir, 7, none⟩ v').heap[nb dir]? = some (.cells (ndC { d with ins := putE d.ins s n } v') 61) := by
      rw [← hbe, heap_set h3b]; rfl
    have hr5 : Ro lo (w3.setCell ⟨nb dir, 7, none⟩ v') v' (putE d.ins s n) := by
      have h1 : Ro lo w3 v' (putE d.ins s n) := by
        have := ins.own
        rw [← ins.len, hP] at this
        exact this
      refine h1.same fun g hg => Below.heap_setCell _ _ _ _ fun e => ?_
      obtain ⟨_, cur, hc⟩ := h1.blk hg
      rw [show g = b from e.trans hbe.symm, h3b] at hc
      simp [ndC] at hc
    obtain ⟨T5, X5⟩ := h.turn hd FN hy hr5 (by
      rcases ins.at' with e | e
      · exact .inl e
      · exact .inr ⟨_, e, hBa.size⟩)
    have hbx5 : (w3.setCell ⟨b, 7, none⟩ v').heap[bx]? = some (.cells (ndC x (ev n)) 61) := by
      rw [hbe, hbxe]
      have := (T5.hn n x (by rw [Tr.set_other _ _ (Ne.symm hdn)]; exact hx)).1
      simp only [if_neg (Ne.symm hdn)] at this
      exact this
    obtain ⟨y0, -, -, -, y4, -, y6, -, -, -, yf⟩ := ndcells hbx5
    obtain ⟨-, -, -, -, -, -, -, z7, -, -, zf⟩ := ndcells h3b
    have hform : ∃ g c, v' = .slice (some ⟨g, 0, none⟩) (L + 1) c := by
      obtain ⟨-, ⟨_, hz⟩ | ⟨g, cap, cur, e1, _⟩⟩ := ins.own
      · omega
      · exact ⟨g, cap, by rw [e1, hL]⟩
    refine ⟨v', hform, rfl, ⟨by rw [hvD]; exact z7, zf⟩, _, rfl, ⟨y0, y4, y6, yf⟩, ?_⟩
    rw [hbe]
    exact ⟨T5, X5⟩
  have FIN : Hid (∀ V5 v', TrI lo N V5 t (T.set dir (some { d with ins := putE d.ins s n })) q p nb (fun k => if k = dir then v' else ev k) ∧ Tx lo W V5 → ∀ V6, (x.kind = 1 → V6 = (V5.setCell ⟨bx, 4, none⟩ (I ((x.names : Int) + 1))).setCell ⟨bx, 6, none⟩ (I dir)) → (x.kind ≠ 1 → V6 = V5.setCell ⟨bx, 4, none⟩ (I ((x.names : Int) + 1))) → ∃ ev', TrI lo N V6 t (T.give dir s n) q p nb ev' ∧ Tx lo W V6) := by
    rintro V5 v' ⟨T5, X5⟩ V6 h1 h2
    have hx5 : (T.set dir (some { d with ins := putE d.ins s n })).nd n = some x := by rw [Tr.set_other _ _ (Ne.symm hdn)]; exact hx
    obtain ⟨hbx5, hr5⟩ := T5.hn n x hx5
    rw [← hbxe] at hbx5
    have hg : T.give dir s n = (T.set dir (some { d with ins := putE d.ins s n })).set n (some (x.named dir)) := by simp [Tr.give, hd, hx]
    rw [hg]
    by_cases hk : x.kind = 1
    · rw [h1 hk]
      have hb6 := heap_set (heap_set hbx5 4 (I ((x.names : Int) + 1))) 6 (I dir)
      obtain ⟨T6, X6⟩ := T5.turn (y := x.named dir) (v := if n = dir then v' else ev n) hx5 (W' := (V5.setCell ⟨nb n, 4, none⟩ (I ((x.names : Int) + 1))).setCell ⟨nb n, 6, none⟩ (I dir)) (((Fn.refl _ _ _).set 4 _).set 6 _) (by rw [← hbxe, hb6]; simp [ndC, Nd.named, hk]) (hr5.same fun g hg => (Below.heap_setCell _ _ _ _ (fun e => by obtain ⟨_, cur, hc⟩ := hr5.blk hg; rw [show g = bx from e.trans hbxe.symm, hbx5] at hc; simp [ndC] at hc)).trans (Below.heap_setCell _ _ _ _ (fun e => by obtain ⟨_, cur, hc⟩ := hr5.blk hg; rw [show g = bx from e.trans hbxe.symm, hbx5] at hc; simp [ndC] at hc))) (.inl rfl)
      rw [hbxe]
      exact ⟨_, T6, X5.trans X6⟩
    · rw [h2 hk]
      have hb6 := heap_set hbx5 4 (I ((x.names : Int) + 1))
      obtain ⟨T6, X6⟩ := T5.turn (y := x.named dir) (v := if n = dir then v' else ev n) hx5 (W' := V5.setCell ⟨nb n, 4, none⟩ (I ((x.names : Int) + 1))) ((Fn.refl _ _ _).set 4 _) (by rw [← hbxe, hb6]; simp [ndC, Nd.named, hk]) (hr5.same fun g hg => Below.heap_setCell _ _ _ _ (fun e => by obtain ⟨_, cur, hc⟩ := hr5.blk hg; rw [show g = bx from e.trans hbxe.symm, hbx5] at hc; simp [ndC] at hc)) (.inl rfl)
      rw [hbxe]
      exact ⟨_, T6, X5.trans X6⟩
  obtain ⟨m, hm⟩ : ∃ m, m = x.names := ⟨_, rfl⟩
  obtain ⟨kd, hkd⟩ : ∃ kd, kd = x.kind := ⟨_, rfl⟩
  rw [← hm] at HI FIN
  rw [← hkd] at HI FIN
  have hm1 : (m : Int) < 900 := by omega
  have q0 : (0 : Int) ≤ (P : Int) := by omega
  clear h hd hx hb hr hbx hrx hP hf hm hkd hbe hbxe hs hl hnm hL hvD
  go_enter Try.func29, Try.ntmps29
  go_wp2_with fail
  go_region
  go_wp2_with (go_at_call 44; refine (unhide HP 1).mono ?_; rintro e V ⟨rfl, hBV⟩; obtain ⟨v7, vf⟩ := unhide HB7 V hBV; have HBV := hide hBV; clear hBV)
  have HC1 : Hid (Calls Try.prog 36 #[.string s] V.drew fun e w2 => e = .returned (.string s) ∧ (w2.cell? ⟨b, 7, none⟩ = some vD ∧ b < w2.heap.size ∧ ∀ i, w2.frozen? ⟨b, i, none⟩ = false) ∧ Hid (Below W.heap.size W w2)) := by
    refine (unhide HC V.drew).mono ?_
    rintro e w2 ⟨h1, h2⟩
    have hB2 := (below_drew (unhide HBV)).trans (h2.mono (unhide HBV).size)
    exact ⟨h1, ⟨(unhide HB7 w2 hB2).1, Nat.lt_of_lt_of_le hbl hB2.size, (unhide HB7 w2 hB2).2⟩, hB2⟩
  clear hown c0 c1 c2 c3 cf hlk1 hlk2
  by_cases hk : kd = 1
  · go_region_with (first
      | (go_at_call 36; refine (unhide HC1).mono ?_; rintro e w2 ⟨rfl, ⟨y7, yl, yf⟩, HB2⟩)
      | (go_at_call 45; refine (unhide HI w2 (unhide HB2)).mono ?_; rintro e w3 ⟨v', ⟨g, c, rfl⟩, rfl, ⟨x7, xf⟩, V5, hV5, ⟨z0, z4, z6, zf⟩, FF⟩))
    all_goals
      rw [← hV5]
      clear hV5
      go_wp2_with fail
      go_end0
      exact ⟨rfl, unhide FIN V5 _ (unhide FF) _ (fun _ => rfl) (fun h => absurd hk h)⟩
  · go_region_with (first
      | (go_at_call 36; refine (unhide HC1).mono ?_; rintro e w2 ⟨rfl, ⟨y7, yl, yf⟩, HB2⟩)
      | (go_at_call 45; refine (unhide HI w2 (unhide HB2)).mono ?_; rintro e w3 ⟨v', ⟨g, c, rfl⟩, rfl, ⟨x7, xf⟩, V5, hV5, ⟨z0, z4, z6, zf⟩, FF⟩))
    all_goals
      rw [← hV5]
      clear hV5
      go_wp2_with fail
      go_end0
      exact ⟨rfl, unhide FIN V5 _ (unhide FF) _ (fun h => absurd h hk) (fun _ => rfl)⟩
end
end Go.Proofs.Ytlngeaacjbdmhaa
