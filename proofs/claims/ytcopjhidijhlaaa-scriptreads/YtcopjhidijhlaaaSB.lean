/-
  The contract of put.
-/
import Derived.Test.YtcopjhidijhlaaaSA
import Derived.Test.YtcopjhidijhlaaaSBackA
namespace Go.Proofs.Ytcopjhidijhlaaa.Cl
open Go.RowKit
attribute [local go_sem ↓] Go.wp_at_zero Go.wp_at_succ

section
variable {W : World} {B : Nat} {v : Value} {l : List UInt8}
/-- An append: bytes behind bytes, wherever they lie. -/
theorem bwAppG (h : Bw W B v l) (hb : B ≤ W.heap.size) (ty : TypeId) (a : Option Addr) (m : List UInt8) (n c : Nat) (hn : n = m.length) (hm : By W W.heap.size a m) (hlen : l.length + m.length ≤ 140737488355328) :
    ∃ v' W', (Builtin.append_ #[22, 22] ty #[v, .slice a n c]).run Try.prog W = .ok v' W' ∧ Bw W' B v' (l ++ m) ∧ Kp B W W' ∧ W.grownBy W' v.ownBlock := by
  subst hn
  have hi := info5
  obtain ⟨i, hi, hz0, hz1, hz2⟩ : ∃ i, Try.prog.info? 5 = some i ∧ i.zero = some (.int .u8 0) ∧ i.size = 1 ∧ i.bytes = 1 := by
    cases h5 : Try.prog.info? 5 with
    | none => rw [h5] at hi; simp at hi
    | some i => rw [h5] at hi; simp at hi; exact ⟨i, rfl, hi.1, hi.2.1, hi.2.2⟩
  have ht := Try.underlying22
  have hmax : (281474976710656 : Nat) ≤ maxLen := by decide
  cases m with
  | nil =>
    refine ⟨v, W, ?_, by simpa using h, Kp.refl _ _, ⟨rfl, rfl, rfl, Nat.le_refl _, fun _ _ _ => rfl⟩⟩
    obtain ⟨rfl, rfl⟩ | ⟨g, cap, cur, fz, rfl, h2, h3, h4, h5, h6, h7, h8⟩ := h
    · cases a <;> simp [Builtin.append_, run_underlying ht, sizeOf, typeInfo, hi, Builtin.lenOf, Builtin.firstCells, loadCells, loadCellsFrom]
    · cases a <;> simp [Builtin.append_, run_underlying ht, sizeOf, typeInfo, hi, Builtin.lenOf, Builtin.firstCells, loadCells, loadCellsFrom, h5, storeCells]
  | cons x m =>
    obtain ⟨sb, so, rfl, hsb, -⟩ := hm 0 x rfl
    have hnews : ∀ j u, (bc (x :: m))[j]? = some u → W.cell? ((⟨sb, so, none⟩ : Addr).add j) = some u := by
      intro j u hj
      have hj1 := (List.getElem?_eq_some_iff.1 hj).1
      rw [bc_len] at hj1
      obtain ⟨b', o', e1, -, h3⟩ := hm j _ (List.getElem?_eq_getElem hj1)
      simp at e1
      obtain ⟨rfl, rfl⟩ := e1
      rw [addAt, h3, ← hj]
      rw [bc_get (List.getElem?_eq_getElem hj1)]
    have hl1 : (bc (x :: m)).length = (x :: m).length * i.size := by rw [bc_len, hz1, Nat.mul_one]
    obtain ⟨rfl, rfl⟩ | ⟨g, cap, cur, fz, rfl, h2, h3, h4, h5, h6, h7, h8⟩ := h
    · obtain ⟨v', W', r1, r2, r3, -⟩ := run_append_own (P := Try.prog) W B 22 ty 5 i (.int .u8 0) 1 1 ht hi hz0 hz1 hz2 rfl (by decide) (.slice none 0 0) 0 [] (World.ownsRow_nil _ _ _ _) ⟨sb, so, none⟩ (x :: m).length c (bc (x :: m)) (by rw [bc_len, Nat.mul_one]) hnews (bc_one _) (by omega) (by simpa using hlen) hb
      refine ⟨v', W', r1, ?_, (Kp.refl B W).grown hb (Bw.nil W B) r3, r3⟩
      exact Bw.of (n := 0 + (x :: m).length) (by simpa using r2) (by simp)
    · have hcl : ∀ j u, (bc l)[j]? = some u → W.cell? ((⟨g, 0, none⟩ : Addr).add j) = some u := by
        intro j u hj
        have hj1 := (List.getElem?_eq_some_iff.1 hj).1
        rw [bc_len] at hj1
        rw [addAt, cell_of h3, Nat.zero_add, ← hj, ← h8, List.getElem?_take_of_lt hj1]
        simp
      by_cases hroom : l.length + (x :: m).length ≤ cap
      · have hst := storeCells_M Try.prog g l.length 5 fz (bc (x :: m)) 0 cur W h3 h4 (by rw [bc_len]; omega) (bc_one _)
        have hf := run_firstCells_some (P := Try.prog) W i.size (x :: m).length ⟨sb, so, none⟩ (x :: m).length c (bc (x :: m)) hl1 hnews
        simp only [Nat.add_zero] at hst
        have hr : (Builtin.append_ #[22, 22] ty #[.slice (some ⟨g, 0, none⟩) l.length cap, .slice (some ⟨sb, so, none⟩) (x :: m).length c]).run Try.prog W = .ok (.slice (some ⟨g, 0, none⟩) (l.length + (x :: m).length) cap) (W.setRow g (cur.toList.take l.length ++ bc (x :: m) ++ cur.toList.drop (l.length + (bc (x :: m)).length)).toArray) := by
          generalize (x :: m).length = k at hroom hf ⊢
          simp [Builtin.append_, run_underlying ht, sizeOf, typeInfo, hi, hz1, Builtin.lenOf, hroom, Addr.add_lit]
          rw [hz1] at hf
          rw [hf]
          simp [hst]
        refine ⟨_, _, hr, .inr ⟨g, cap, _, fz, by rw [List.length_append], h2, setRow_heap W g cur _ 5 _ h3, ?_, by rw [List.length_append]; exact hroom, h6, ?_, ?_⟩, ?_⟩
        · simp only [List.size_toArray, List.length_append, List.length_take, List.length_drop, Array.length_toList, bc_len]
          rcases h4 with h4 | h4
          · exact .inl h4
          · right; omega
        · simp only [List.size_toArray, List.length_append, List.length_take, List.length_drop, Array.length_toList, bc_len]
          omega
        · rw [bc_app, ← h8]
          have e : (l ++ x :: m).length = (cur.toList.take l.length ++ bc (x :: m)).length := by
            simp [bc_len, List.length_take]; omega
          rw [e]
          exact List.take_left
        · exact ⟨(Kp.refl B W).grown hb (.inr ⟨g, cap, cur, fz, rfl, h2, h3, h4, h5, h6, h7, h8⟩) ⟨rfl, rfl, rfl, by simp, fun k _ hk => setRow_other W g k _ (fun e => hk (by simp [Value.ownBlock, e]))⟩, ⟨rfl, rfl, rfl, by simp, fun k _ hk => setRow_other W g k _ (fun e => hk (by simp [Value.ownBlock, e]))⟩⟩
      · have hlo : (bc l).length = l.length * i.size := by rw [bc_len, hz1, Nat.mul_one]
        have hr := run_append_grow (P := Try.prog) W 22 ty 5 i (.int .u8 0) ht hi hz0 ⟨g, 0, none⟩ l.length cap (bc l) hlo hcl ⟨sb, so, none⟩ (x :: m).length c (bc (x :: m)) hl1 hnews (by omega) (by omega) (growslice_fits (by omega) (by rw [hz2]; omega))
        have hge := grownCap_ge W (l.length + (x :: m).length) cap 5
        have hcm2 : grownCap W (l.length + (x :: m).length) cap 5 ≤ maxLen := grownCap_le_maxLen W (l.length + (x :: m).length) cap 5 (by omega)
        refine ⟨_, _, hr, .inr ⟨W.heap.size, _, _, (0, 0), by rw [List.length_append], hb, heap_alloc_new W.drew _, .inl rfl, by rw [List.length_append]; exact hge, hcm2, ?_, ?_⟩, ?_⟩
        · simp only [Array.size_append, List.size_toArray, size_zeroCells, bc_len]
          have : (Value.int IntKind.u8 0).cells.size = 1 := rfl
          rw [this]
          omega
        · have e : (l ++ x :: m).length = (bc (l ++ x :: m)).length := (bc_len _).symm
          simp only [Array.toList_append, List.append_assoc]
          rw [e, bc_app, ← List.append_assoc]
          exact List.take_left
        · exact ⟨(Kp.refl B W).grown hb (.inr ⟨g, cap, cur, fz, rfl, h2, h3, h4, h5, h6, h7, h8⟩) ⟨rfl, rfl, rfl, by simp, fun k hk _ => Below.heap_alloc W.drew _ _ hk⟩, ⟨rfl, rfl, rfl, by simp, fun k hk _ => Below.heap_alloc W.drew _ _ hk⟩⟩
theorem bwNewG (h : Bw W B v l) (hb : B ≤ W.heap.size) (ty : TypeId) (m : List UInt8) (n : Nat) (hn : n = m.length) (cs : Array Value) (hcs : cs = (bc m).toArray) (hlen : l.length + m.length ≤ 140737488355328) :
    ∃ v' W', (Builtin.append_ #[22, 22] ty #[v, .slice (some ⟨W.heap.size, 0, none⟩) n n]).run Try.prog (W.alloc (.cells cs 5)) = .ok v' W' ∧ Bw W' B v' (l ++ m) ∧ Kp B W W' ∧ ∀ k, k < W.heap.size → v.ownBlock ≠ some k → W'.heap[k]? = W.heap[k]? := by
  subst hcs
  obtain ⟨v', W', h1, h2, h3, h4⟩ := bwAppG (h.alloc (.cells (bc m).toArray 5)) (by simp; omega) ty (some ⟨W.heap.size, 0, none⟩) m n n hn (fun k c hk => ⟨W.heap.size, 0, rfl, by simp, by
    rw [cell_of (heap_alloc_new W _), Nat.zero_add, List.getElem?_toArray, bc_get hk]⟩) hlen
  exact ⟨v', W', h1, h2, ((Kp.refl B W).alloc hb _).trans h3, fun k hk hne => (h4.block k (by simp; omega) (fun e => hne e.symm)).trans (Below.heap_alloc W _ _ hk)⟩
theorem bwOwnB (h : Bw W B v l) {k : Nat} (e : v.ownBlock = some k) : k < W.heap.size := by
  obtain ⟨rfl, -⟩ | ⟨g, cap, cur, fz, rfl, h2, h3, -⟩ := h
  · cases e
  · simp [Value.ownBlock] at e
    subst e
    exact lt_of_heap h3
end
set_option maxRecDepth 100000 in
set_option maxHeartbeats 2000000 in
theorem put_num (B : Nat) (v : Value) (l : List UInt8) (kd n : Int) (a : Option Addr) (k cap : Nat) (hk : kd = 2 ∨ kd = 3) (hn : 0 ≤ n ∧ n ≤ 65535) (w : World) (h : Bw w B v l) (hb : B ≤ w.heap.size) (hl : l.length ≤ 140737488300000) (th : Int) (c : Cc) :
    Calls Try.prog 20 #[v, .agg ((It.mk kd th n c).cs (.slice a k cap))] w fun e w' => ∃ v', e = .returned v' ∧ Bw w' B v' (l ++ (be 1 kd ++ be 2 n)) ∧ Kp B w w' := by
  obtain ⟨V, hV, hs, g0, hB⟩ := alloc1 w (.cells ((It.mk kd th n c).cs (.slice a k cap)) 29)
  have hKV := Kp.of_below hB hb
  have hbV : B ≤ V.heap.size := by omega
  obtain ⟨v1, W1, hrun1, hw1, hK1⟩ := (h.below hB).new hbV 22 (be 1 kd) 1 rfl #[.int .u8 (kd % 256)] (by simp [Lib.byteCells, be, byt_val]) (by simp [be]; omega)
  obtain ⟨a1, n1, c1, rfl⟩ := hw1.sl
  have g1 := hK1.keep g0 (by decide)
  have hb1 : B ≤ W1.heap.size := Nat.le_trans hbV hK1.be.size
  obtain ⟨v2, W2, hrun2, hw2, hK2⟩ := hw1.new hb1 22 (be 2 n) 2 rfl #[.int .u8 (n / 256), .int .u8 (n % 256)] (by
    have e : n / 256 % 256 = n / 256 := by omega
    simp [Lib.byteCells, be, byt_val, e]) (by simp [be]; omega)
  obtain ⟨b0, b1, b2, b3, b4, b5, b6, b7, b8, b9, b10, b11⟩ := cells12 g0
  obtain ⟨d0, d1, d2, d3, d4, d5, d6, d7, d8, d9, d10, d11⟩ := cells12 g1
  have HK := hide (⟨hw2, (hKV.trans hK1).trans hK2⟩ : _ ∧ _)
  have hk2 : (kd == 1) = false := by simp; omega
  have hk3 : (kd != 1) = true := by simp; omega
  clear h hb hl hw1 hw2 hK1 hK2 g0 g1 hB hs hKV hbV hb1 hk
  go_enter Try.func20, Try.ntmps20
  go_wp2_with (at_builtin; first | (refine wpList_app rfl _ _ 22 22 rfl 22 rfl _ _ (by rfl) (by rfl) _ _ hrun1 ?_; clear hrun1) | (refine wpList_app rfl _ _ 22 22 rfl 22 rfl _ _ (by rfl) (by rfl) _ _ hrun2 ?_; clear hrun2))
  go_ret
  exact ⟨_, rfl, by simpa using (unhide HK).1, (unhide HK).2⟩
set_option maxRecDepth 100000 in
set_option maxHeartbeats 2000000 in
theorem put_start (B : Nat) (v : Value) (l : List UInt8) (th n : Int) (c : Cc) (a : Option Addr) (k cap : Nat) (hk : k = c.data.length) (ht : 0 ≤ th ∧ th ≤ 255) (hr : c.right = 0) (w : World) (h : Bw w B v l) (hb : B ≤ w.heap.size) (hd : By w B a c.data) (hl : l.length ≤ 140737488300000) :
    Calls Try.prog 20 #[v, .agg ((It.mk 1 th n c).cs (.slice a k cap))] w fun e w' => ∃ v', e = .returned v' ∧ Bw w' B v' (l ++ (be 1 1 ++ (be 1 th ++ c.enc))) ∧ Kp B w w' := by
  obtain ⟨-, -, l1, l2, l3⟩ := Cc.right_ok hr
  have hlen := c.enc_len
  obtain ⟨V, hV, hs, g0, hB⟩ := alloc1 w (.cells ((It.mk 1 th n c).cs (.slice a k cap)) 29)
  have hKV := Kp.of_below hB hb
  have hbV : B ≤ V.heap.size := by omega
  obtain ⟨v1, W1, hrun1, hw1, hK1⟩ := (h.below hB).new hbV 22 (be 1 1) 1 rfl #[.int .u8 1] (by rfl) (by simp [be]; omega)
  obtain ⟨a1, n1, c1, rfl⟩ := hw1.sl
  have g1 := hK1.keep g0 (by decide)
  have hb1 : B ≤ W1.heap.size := Nat.le_trans hbV hK1.be.size
  have HE := hide (encode_y c a k cap hk hr W1 ((hd.below (hKV.trans hK1).be).mono hb1))
  obtain ⟨b0, b1, b2, b3, b4, b5, b6, b7, b8, b9, b10, b11⟩ := cells12 g0
  obtain ⟨d0, d1, d2, d3, d4, d5, d6, d7, d8, d9, d10, d11⟩ := cells12 g1
  have HK := hide (⟨hw1, hKV.trans hK1, g1, hb1⟩ : _ ∧ _ ∧ _ ∧ _)
  clear h hw1 hK1 g0 g1 hB hs hKV hbV hb1 hd hk
  go_enter Try.func20, Try.ntmps20
  go_wp2_with (at_builtin; (refine wpList_app rfl _ _ 22 22 rfl 22 rfl _ _ (by rfl) (by rfl) _ _ hrun1 ?_; clear hrun1))
  refine (unhide HE).mono ?_
  rintro e W2 ⟨v2, rfl, r2, be2⟩
  obtain ⟨hw1, hK1, g1, hb1⟩ := unhide HK
  have g2 := (be2.block _ (lt_of_heap g1)).trans g1
  have hb2 : B ≤ W2.heap.size := Nat.le_trans hb1 be2.size
  have hK2 := hK1.trans (Kp.of_below be2 hb1)
  obtain ⟨v3, W3, hrun3, hw3, hK3, hG3⟩ := bwNewG (hw1.below be2) hb2 22 (be 1 th) 1 rfl #[.int .u8 th] (by
    have e : th % 256 = th := by omega
    simp [Lib.byteCells, be, byt_val, e]) (by simp [be]; omega)
  obtain ⟨a3, n3, c3, rfl⟩ := hw3.sl
  obtain ⟨a2, c2, rfl, by2, -, -⟩ := r2.form
  have r3 := r2.keep (W' := W3) fun k h1 h2 => hG3 k h2 (fun e => by have := bwOwnB hw1 e; omega)
  obtain ⟨a2', c2', e2', by3, -, -⟩ := r3.form
  simp at e2'
  obtain ⟨rfl, rfl⟩ := e2'
  have hb3 : B ≤ W3.heap.size := Nat.le_trans hb2 hK3.be.size
  obtain ⟨v4, W4, hrun4, hw4, hK4⟩ := hw3.app hb3 22 a2 c.enc c.enc.length c2 rfl by3 (by simp [be]; omega)
  obtain ⟨e0, e1, e2, e3, e4, e5, e6, e7, e8, e9, e10, e11⟩ := cells12 g2
  have HK4 := hide (⟨hw4, (hK2.trans hK3).trans hK4⟩ : _ ∧ _)
  clear HK HE hG3 r3 by3 hw1 hK1 g1 hb1 be2 hK2 r2 by2 hw3 hK3 hb3 hw4 hK4 g2 hb2 hlen l1 l2 l3 hl
  go_wp2_with (at_builtin; first | (refine wpList_app rfl _ _ 22 22 rfl 22 rfl _ _ (by rfl) (by rfl) _ _ hrun3 ?_; clear hrun3) | (refine wpList_app rfl _ _ 22 22 rfl 22 rfl _ _ (by rfl) (by rfl) _ _ hrun4 ?_; clear hrun4))
  go_ret
  exact ⟨_, rfl, by simpa using (unhide HK4).1, (unhide HK4).2⟩
/-- put. -/
theorem put_any (B : Nat) (v : Value) (l : List UInt8) (x : It) (hr : x.right = 0) (a : Option Addr) (k cap : Nat) (hk : k = x.c.data.length) (w : World) (h : Bw w B v l) (hb : B ≤ w.heap.size) (hd : By w B a x.c.data) (hl : l.length ≤ 140737488300000) :
    Calls Try.prog 20 #[v, .agg (x.cs (.slice a k cap))] w fun e w' => ∃ v', e = .returned v' ∧ Bw w' B v' (l ++ x.enc) ∧ Kp B w w' := by
  obtain ⟨kd, th, n, c⟩ := x
  obtain ⟨h1, h2, ⟨h3, -, h4⟩ | ⟨h3, -⟩⟩ := It.right_ok hr
  · simp only at h1 h3 h4 hk hd
    subst h3
    exact put_start B v l th n c a k cap hk h1 h4 w h hb hd hl
  · simp only at h2 h3
    have e : (It.mk kd th n c).enc = be 1 kd ++ be 2 n := by
      unfold It.enc
      rw [if_neg (by simp only; omega)]
    rw [e]
    exact put_num B v l kd n a k cap h3 h2 w h hb hl th c
end Go.Proofs.Ytcopjhidijhlaaa.Cl
