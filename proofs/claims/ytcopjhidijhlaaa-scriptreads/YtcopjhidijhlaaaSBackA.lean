/-
  An append of much; calls held against one another; what Decode answers of a call's own bytes.
-/
import Derived.Test.YtcopjhidijhlaaaSSizes
import Derived.Test.YtcopjhidijhlaaaCBackP
import Derived.Deep.DeepAppendWide
namespace Go.Proofs.Ytcopjhidijhlaaa.Cl
open Go.RowKit
attribute [local go_sem ↓] Go.wp_at_zero Go.wp_at_succ
section
variable {W : World} {B : Nat} {v : Value} {l : List UInt8}
/-- An append: bytes behind bytes, wherever they lie. -/
theorem bwAppW (h : Bw W B v l) (hb : B ≤ W.heap.size) (ty : TypeId) (a : Option Addr) (m : List UInt8) (n c : Nat) (hn : n = m.length) (hm : By W W.heap.size a m) (hlen : l.length + m.length ≤ 200000000000000) :
    ∃ v' W', (Builtin.append_ #[22, 22] ty #[v, .slice a n c]).run Try.prog W = .ok v' W' ∧ Bw W' B v' (l ++ m) ∧ Kp B W W' := by
  subst hn
  have hi := info5
  obtain ⟨i, hi, hz0, hz1, hz2⟩ : ∃ i, Try.prog.info? 5 = some i ∧ i.zero = some (.int .u8 0) ∧ i.size = 1 ∧ i.bytes = 1 := by
    cases h5 : Try.prog.info? 5 with
    | none => rw [h5] at hi; simp at hi
    | some i => rw [h5] at hi; simp at hi; exact ⟨i, rfl, hi.1, hi.2.1, hi.2.2⟩
  have ht := Try.underlying22
  have hmax : (281474976710656 : Nat) ≤ maxLen := by decide
  cases m with
  | nil =>
    refine ⟨v, W, ?_, by simpa using h, Kp.refl _ _⟩
    obtain ⟨rfl, rfl⟩ | ⟨g, cap, cur, fz, rfl, h2, h3, h4, h5, h6, h7, h8⟩ := h
    · cases a <;> simp [Builtin.append_, run_underlying ht, sizeOf, typeInfo, hi, Builtin.lenOf, Builtin.firstCells, loadCells, loadCellsFrom]
    · cases a <;> simp [Builtin.append_, run_underlying ht, sizeOf, typeInfo, hi, Builtin.lenOf, Builtin.firstCells, loadCells, loadCellsFrom, h5, storeCells]
  | cons x m =>
    obtain ⟨sb, so, rfl, hsb, -⟩ := hm 0 x rfl
    have hnews : ∀ j u, (bc (x :: m))[j]? = some u → W.cell? ((⟨sb, so, none⟩ : Addr).add j) = some u := by
      intro j u hj
      have hj1 := (List.getElem?_eq_some_iff.1 hj).1
      rw [bc_len] at hj1
      obtain ⟨b', o', e1, -, h3⟩ := hm j _ (List.getElem?_eq_getElem hj1)
      simp at e1
      obtain ⟨rfl, rfl⟩ := e1
      rw [addAt, h3, ← hj]
      rw [bc_get (List.getElem?_eq_getElem hj1)]
    have hl1 : (bc (x :: m)).length = (x :: m).length * i.size := by rw [bc_len, hz1, Nat.mul_one]
    obtain ⟨rfl, rfl⟩ | ⟨g, cap, cur, fz, rfl, h2, h3, h4, h5, h6, h7, h8⟩ := h
    · obtain ⟨v', W', r1, r2, r3, -⟩ := run_append_own_wide (P := Try.prog) W B 22 ty 5 i (.int .u8 0) 1 1 ht hi hz0 hz1 hz2 rfl (by decide) (.slice none 0 0) 0 [] (World.ownsRow_nil _ _ _ _) ⟨sb, so, none⟩ (x :: m).length c (bc (x :: m)) (by rw [bc_len, Nat.mul_one]) hnews (bc_one _) (by simp at hlen ⊢; omega) (by simp at hlen ⊢; omega) hb
      refine ⟨v', W', r1, ?_, (Kp.refl B W).grown hb (Bw.nil W B) r3⟩
      exact Bw.of (n := 0 + (x :: m).length) (by simpa using r2) (by simp)
    · have hcl : ∀ j u, (bc l)[j]? = some u → W.cell? ((⟨g, 0, none⟩ : Addr).add j) = some u := by
        intro j u hj
        have hj1 := (List.getElem?_eq_some_iff.1 hj).1
        rw [bc_len] at hj1
        rw [addAt, cell_of h3, Nat.zero_add, ← hj, ← h8, List.getElem?_take_of_lt hj1]
        simp
      by_cases hroom : l.length + (x :: m).length ≤ cap
      · have hst := storeCells_M Try.prog g l.length 5 fz (bc (x :: m)) 0 cur W h3 h4 (by rw [bc_len]; omega) (bc_one _)
        have hf := run_firstCells_some (P := Try.prog) W i.size (x :: m).length ⟨sb, so, none⟩ (x :: m).length c (bc (x :: m)) hl1 hnews
        simp only [Nat.add_zero] at hst
        have hr : (Builtin.append_ #[22, 22] ty #[.slice (some ⟨g, 0, none⟩) l.length cap, .slice (some ⟨sb, so, none⟩) (x :: m).length c]).run Try.prog W = .ok (.slice (some ⟨g, 0, none⟩) (l.length + (x :: m).length) cap) (W.setRow g (cur.toList.take l.length ++ bc (x :: m) ++ cur.toList.drop (l.length + (bc (x :: m)).length)).toArray) := by
          generalize (x :: m).length = k at hroom hf ⊢
          simp [Builtin.append_, run_underlying ht, sizeOf, typeInfo, hi, hz1, Builtin.lenOf, hroom, Addr.add_lit]
          rw [hz1] at hf
          rw [hf]
          simp [hst]
        refine ⟨_, _, hr, .inr ⟨g, cap, _, fz, by rw [List.length_append], h2, setRow_heap W g cur _ 5 _ h3, ?_, by rw [List.length_append]; exact hroom, h6, ?_, ?_⟩, ?_⟩
        · simp only [List.size_toArray, List.length_append, List.length_take, List.length_drop, Array.length_toList, bc_len]
          rcases h4 with h4 | h4
          · exact .inl h4
          · right; omega
        · simp only [List.size_toArray, List.length_append, List.length_take, List.length_drop, Array.length_toList, bc_len]
          omega
        · rw [bc_app, ← h8]
          have e : (l ++ x :: m).length = (cur.toList.take l.length ++ bc (x :: m)).length := by
            simp [bc_len, List.length_take]; omega
          rw [e]
          exact List.take_left
        · exact (Kp.refl B W).grown hb (.inr ⟨g, cap, cur, fz, rfl, h2, h3, h4, h5, h6, h7, h8⟩) ⟨rfl, rfl, rfl, by simp, fun k _ hk => setRow_other W g k _ (fun e => hk (by simp [Value.ownBlock, e]))⟩
      · have hlo : (bc l).length = l.length * i.size := by rw [bc_len, hz1, Nat.mul_one]
        have hr := run_append_grow (P := Try.prog) W 22 ty 5 i (.int .u8 0) ht hi hz0 ⟨g, 0, none⟩ l.length cap (bc l) hlo hcl ⟨sb, so, none⟩ (x :: m).length c (bc (x :: m)) hl1 hnews (by omega) (by omega) (growslice_fits_wide (by omega) (by rw [hz2]; omega))
        have hge := grownCap_ge W (l.length + (x :: m).length) cap 5
        have hcm2 : grownCap W (l.length + (x :: m).length) cap 5 ≤ maxLen := grownCap_le_maxLen W (l.length + (x :: m).length) cap 5 (by omega)
        refine ⟨_, _, hr, .inr ⟨W.heap.size, _, _, (0, 0), by rw [List.length_append], hb, heap_alloc_new W.drew _, .inl rfl, by rw [List.length_append]; exact hge, hcm2, ?_, ?_⟩, ?_⟩
        · simp only [Array.size_append, List.size_toArray, size_zeroCells, bc_len]
          have : (Value.int IntKind.u8 0).cells.size = 1 := rfl
          rw [this]
          omega
        · have e : (l ++ x :: m).length = (bc (l ++ x :: m)).length := (bc_len _).symm
          simp only [Array.toList_append, List.append_assoc]
          rw [e, bc_app, ← List.append_assoc]
          exact List.take_left
        · exact (Kp.refl B W).grown hb (.inr ⟨g, cap, cur, fz, rfl, h2, h3, h4, h5, h6, h7, h8⟩) ⟨rfl, rfl, rfl, by simp, fun k hk _ => Below.heap_alloc W.drew _ _ hk⟩
end
set_option maxRecDepth 100000 in
set_option maxHeartbeats 2000000 in
theorem keep_same (x : Cc) (a : Option Addr) (n c : Nat) (hn : n = x.data.length) (b : Option Addr) (m d : Nat) (hm : m = x.data.length) (w : World) (ha : By w w.heap.size a x.data) (hb : By w w.heap.size b x.data) :
    Calls Try.prog 36 #[.agg (x.cs (.slice a n c)), .agg (x.cs (.slice b m d))] w fun e w' => e = .returned (.bool true) ∧ Below w.heap.size w w' := by
  subst hn hm
  obtain ⟨X, hX, hs, g0, g1, hB⟩ := alloc2 w (.cells (x.cs (.slice a x.data.length c)) 27) (.cells (x.cs (.slice b x.data.length d)) 27)
  obtain ⟨b0, b1, b2, b3, b4, b5, b6, b7, b8⟩ := cells9 g0
  obtain ⟨d0, d1, d2, d3, d4, d5, d6, d7, d8⟩ := cells9 g1
  have k1 := conv_by (ha.below hB) x.data.length c rfl
  have k2 := conv_by (hb.below hB) x.data.length d rfl
  have HB := hide hB
  clear hB g0 g1 hs ha hb
  go_enter Try.func36, Try.ntmps36
  go_wp2_with fail
  go_ret
  exact ⟨rfl, unhide HB⟩
/-- Decode of a call's bytes, whatever stands behind them. -/
theorem dec_yes (x : Cc) (hr : x.right = 0) (m : List UInt8) (g c n : Nat) (hn : n = (x.enc ++ m).length) (w : World) (hb : By w w.heap.size (some ⟨g, 0, none⟩) (x.enc ++ m)) (hc : (x.enc ++ m).length ≤ c) (hm : c ≤ maxLen) :
    Calls Try.prog 47 #[.slice (some ⟨g, 0, none⟩) n c] w fun e w' => (∃ a k, e = .returned (.tuple #[.agg (x.cs (.slice a x.data.length k)), I (x.enc.length : Nat), I 0]) ∧ By w' w'.heap.size a x.data) ∧ Below w.heap.size w w' := by
  obtain ⟨h1, h2⟩ := dec_enc x hr m
  have hd : dwhy (x.enc ++ m) = 0 := by
    unfold dwhy
    rw [h1, h2, hr]
    rfl
  refine (decode_any (x.enc ++ m) (some ⟨g, 0, none⟩) n c hn hc hm (fun e => by cases e) w hb).mono ?_
  rintro e w' ⟨⟨h, -⟩ | ⟨-, v, rfl, r⟩, hB⟩
  · exact absurd hd h
  · rw [h2] at r ⊢
    rw [h1]
    obtain ⟨a, k, rfl, hby, -⟩ := r.form
    refine ⟨⟨a, k, ?_, hby⟩, hB⟩
    rw [List.length_append, Nat.add_sub_cancel]
theorem take_key (l e r : List UInt8) (h : l = e ++ r) : e = l.take e.length := by
  subst h
  simp
/-- Decode of bytes that are refused, or of a call. -/
theorem dec_two (l : List UInt8) (a : Option Addr) (c : Nat) (hc : l.length ≤ c) (hm : c ≤ maxLen) (hnn : a = none → c = 0) (w : World) (hb : By w w.heap.size a l) :
    (dwhy l ≠ 0 ∧ Calls Try.prog 47 #[.slice a l.length c] w fun e w' => e = .returned (.tuple #[.agg Z0, I 0, I (dwhy l)]) ∧ Below w.heap.size w w') ∨
    ((dcc l).right = 0 ∧ (dcc l).enc = l.take (dcc l).enc.length ∧ (dcc l).enc.length ≤ l.length ∧ Calls Try.prog 47 #[.slice a l.length c] w fun e w' => (∃ b k, e = .returned (.tuple #[.agg ((dcc l).cs (.slice b (dcc l).data.length k)), I ((dcc l).enc.length : Nat), I 0]) ∧ By w' w'.heap.size b (dcc l).data) ∧ Below w.heap.size w w') := by
  by_cases h : dwhy l = 0
  · right
    have hcut : (q9 l).2 = false := by
      unfold dwhy at h
      cases hq : (q9 l).2 with
      | false => rfl
      | true => rw [hq] at h; simp at h
    have hright : (dcc l).right = 0 := by
      unfold dwhy at h
      rw [hcut] at h
      simpa using h
    have he := enc_dec l hcut
    have hlen := congrArg List.length he
    rw [List.length_append] at hlen
    refine ⟨hright, ?_, by omega, ?_⟩
    · exact take_key _ _ _ he
    · refine (decode_any l a _ c rfl hc hm hnn w hb).mono ?_
      rintro e w' ⟨⟨h2, -⟩ | ⟨-, v, rfl, r⟩, hB⟩
      · exact absurd h h2
      · obtain ⟨b, k, rfl, hby, -⟩ := r.form
        refine ⟨⟨b, k, ?_, hby⟩, hB⟩
        rw [show l.length - (q9 l).1.length = (dcc l).enc.length by omega]
  · left
    refine ⟨h, (decode_any l a _ c rfl hc hm hnn w hb).mono ?_⟩
    rintro e w' ⟨⟨-, rfl⟩ | ⟨h2, -⟩, hB⟩
    · exact ⟨rfl, hB⟩
    · exact absurd h2 h
end Go.Proofs.Ytcopjhidijhlaaa.Cl
