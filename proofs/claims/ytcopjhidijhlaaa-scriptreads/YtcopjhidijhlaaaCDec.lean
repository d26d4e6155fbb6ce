/-
  The contract of Decode.
-/
import Derived.Test.YtcopjhidijhlaaaCDecA
namespace Go.Proofs.Ytcopjhidijhlaaa.Cl
open Go.RowKit Go.Shelf
attribute [local go_sem] Oper.semAt_some

/-- Bytes as a text. -/
theorem conv_by {W : World} {B : Nat} {a : Option Addr} {l : List UInt8} (h : By W B a l) (n c : Nat) (hn : n = l.length) : (convert 22 9 (.slice a n c)).run Try.prog W = .ok (S l) W := by
  subst hn
  cases l with
  | nil =>
    rw [run_convert_bytes_string W 22 9 5 a _ c Try.underlying22 Try.underlying5 Try.underlying9]
    cases a with
    | none => simp [Conv.bytesToString]; rfl
    | some a =>
      rw [run_bytesToString W a _ c [] (by simp [loadCells, loadCellsFrom])]
      rfl
  | cons x l =>
    obtain ⟨b, off, rfl, -, -⟩ := h 0 x rfl
    refine run_convert_bytes_back W 22 9 5 ⟨b, off, none⟩ c (x :: l) Try.underlying22 Try.underlying5 Try.underlying9 (fun j hj => ?_)
    obtain ⟨b', o', e1, -, e3⟩ := h j _ (List.getElem?_eq_getElem hj)
    simp at e1
    obtain ⟨rfl, rfl⟩ := e1
    rw [addAt, e3]
theorem sx_wrap (n : Nat) (h : n < 4294967296) : wrap64 (wrap32 (n : Int)) = sx n := by
  unfold sx
  simp only [wrap64, wrap32]
  split <;> omega
theorem lft_le (s : Nat) (l : List UInt8) : (lft s l).length ≤ l.length := by
  unfold lft
  split <;> simp
theorem rN_le (s : Nat) (q : Rs) : (rN s q).1.length ≤ q.1.length := lft_le s q.1
theorem rT_le (q : Rs) : (rT q).1.length ≤ q.1.length := Nat.le_trans (rN_le _ _) (rN_le _ _)
theorem qn_le (b : List UInt8) (k : Nat) : (qn b k).1.length ≤ b.length := by
  induction k with
  | zero => exact Nat.le_trans (rT_le _) (Nat.le_trans (rT_le _) (rN_le _ _))
  | succ k ih => exact Nat.le_trans (rN_le _ _) ih
theorem Bw.gr {W W' : World} {B r : Nat} {v : Value} {l : List UInt8} (h : Bw W B v l) (g : Gr r W W') {cs : Array Value} {t : TypeId} {f : Nat × Nat} (hr : W.heap[r]? = some (.cells cs t f)) (ht : t ≠ 5) : Bw W' B v l := by
  obtain h | ⟨b, cap, cur, fz, h1, h2, h3, h4⟩ := h
  · exact .inl h
  · refine .inr ⟨b, cap, cur, fz, h1, h2, g.keep h3 ?_, h4⟩
    rintro rfl
    rw [h3] at hr
    simp at hr
    exact ht hr.2.1.symm
theorem wpIn_quiet {F : Fence} {n : Nat} {P : Program} {c : Code} {Q : Exit → Act → World → Prop} {a : Act} {w : World} (h : c.wpIn F n P (fun e a w => e = .normal ∧ Q e a w) a w) : c.wpIn F n P Q a w := wpIn_mono h (fun _ _ _ h => h.2)
theorem dcc_data (b : List UInt8) : (dcc b).data = vT (qn b 5) := by simp only [dcc]
theorem pcc_end (b : List UInt8) (d d' : Value) : ((pcc b 5).cs d).setIfInBounds 8 d' = (dcc b).cs d' := by simp [pcc, dcc, Cc.cs]
/-- A text that is read, and a number. -/
theorem text_q (B r : Nat) (a : Option Addr) (cap : Nat) (q : Rs) (W : World) (h : Rd W B r a cap q.1 q.2) :
    Calls Try.prog 49 #[Pt r 0] W fun e W' => ∃ a1 c1 a2 c2 n, e = .returned (.slice a1 n c1) ∧ n = (vT q).length ∧ By W' B a1 (vT q) ∧ Rd W' B r a2 c2 (rT q).1 (rT q).2 ∧ Gr r W W' := text_any B r a cap q.1 q.2 W h
theorem number_q (B r : Nat) (a : Option Addr) (cap : Nat) (q : Rs) (s : Nat) (hs : s ≤ 4) (W : World) (h : Rd W B r a cap q.1 q.2) :
    Calls Try.prog 48 #[Pt r 0, I s] W fun e W' => e = .returned (I (vN s q)) ∧ (∃ a' cap', Rd W' B r a' cap' (rN s q).1 (rN s q).2) ∧ Gr r W W' := number_any B r a cap q.1 q.2 s hs W h
theorem vN_lt (s : Nat) (q : Rs) : vN s q < 256 ^ s := by
  have h1 := nat_lt (tkn s q.1)
  have h2 : (tkn s q.1).length ≤ s := by unfold tkn; split <;> simp; omega
  have h3 : 256 ^ (tkn s q.1).length ≤ 256 ^ s := Nat.pow_le_pow_right (by decide) h2
  unfold vN
  omega
theorem vT_len (q : Rs) : (vT q).length ≤ 65535 := by
  have h1 := vN_lt 2 q
  have h2 : (256 : Nat) ^ 2 = 65536 := rfl
  unfold vT tkn
  split
  · simp
  · rw [List.length_take]; omega
theorem wpListIn_app {F : Fence} {n : Nat} {P : Program} {w : World} {ops : Array Oper} {rest : List Oper} {o : Oper} {a : Act} {Q : Exit → Act → World → Prop} (hgd : o.guard = none) (s x : Operand) (t t2 : TypeId)
    (ho : o.op = .call { callee := .builtin .append, args := #[s, x], argTypes := #[t, t2] }) (ty : TypeId) (hty : o.type = ty) (vs vx : Value) (hs : a.eval s = vs) (hx : a.eval x = vx) (v' : Value) (w' : World)
    (hrun : (Builtin.append_ #[t, t2] ty #[vs, vx]).run P w = .ok v' w') (h : wpListIn F n P ops Q rest (a.put o.dst v') w') : wpListIn F n P ops Q (o :: rest) a w := by
  refine wpListIn_plain hgd fun K hK' => ?_
  unfold Oper.wpIn
  refine ⟨?_, ?_⟩
  · simp [Oper.about, ho, resolve, Target.leads, Sem.run_pure]
  · rw [Oper.semAt_plain F _ _ (by rw [ho]; intro c hc'; cases hc')]
    rw [← hty] at hrun
    simp [execOp, ho, resolve, invoke, builtin, hs, hx, hrun, Result.andThen]
    exact hK' _ _ h
structure Dj (w W : World) (r : Loop) (h p q k : Nat) (b : List UInt8) : Prop where
  l : W.heap[q + 2]? = some (.loop r)
  dd : W.heap[q + 1]? = some (.deferred (some []))
  xx : W.heap[q]? = some (.cells #[Pt p 0] 62)
  ff : W.heap[q + 3]? = some (.cells (five p) 63)
  de : De w W h p (pcc b k) (.slice none 0 0) (qn b k)
  pq : p < q
theorem Dj.put {w W : World} {r : Loop} {h p q k : Nat} {b : List UInt8} (J : Dj w W r h p q k b) (r' : Loop) : Dj w (W.putObj (q + 2) (.loop r')) r' h p q k b :=
  ⟨World.putObj_heap_same (lt_of_heap J.l), (World.putObj_heap_other (by omega)).trans J.dd, (World.putObj_heap_other (by omega)).trans J.xx, (World.putObj_heap_other (by omega)).trans J.ff, J.de.putO J.l (by simp) (by have := J.de.hp; have := J.pq; omega) _, J.pq⟩
theorem Dj.drew {w W : World} {r : Loop} {h p q k : Nat} {b : List UInt8} (J : Dj w W r h p q k b) : Dj w W.drew r h p q k b := ⟨J.l, J.dd, J.xx, J.ff, J.de.drew, J.pq⟩
theorem Dj.call {w W W' : World} {r : Loop} {h p q k : Nat} {b : List UInt8} (J : Dj w W r h p q k b) (hk : k < 5) (g : Gr (h + 1) W W') (hr : ∃ a cap, Rd W' h (h + 1) a cap (qn b (k + 1)).1 (qn b (k + 1)).2) :
    W'.cell? ⟨p, 3 + k, none⟩ = some (I ((pcc b k).num k)) ∧ W'.frozen? ⟨p, 3 + k, none⟩ = false ∧ Dj w (W'.setCell ⟨p, 3 + k, none⟩ (I (sx (vN 4 (qn b k))))) r h p q (k + 1) b := by
  have D := J.de.grow g hr
  have hp := D.hp
  have hq := J.pq
  refine ⟨by rw [cell_of D.c]; exact Cc.num_get _ _ hk, frozen_of D.c _, ⟨?_, ?_, ?_, ?_, D.set _ _ (pcc_set b k hk _), hq⟩⟩
  · exact (Below.heap_setCell _ _ _ _ (by simp; omega)).trans (g.keep J.l (by omega))
  · exact (Below.heap_setCell _ _ _ _ (by simp; omega)).trans (g.keep J.dd (by omega))
  · exact (Below.heap_setCell _ _ _ _ (by simp; omega)).trans (g.keep J.xx (by omega))
  · exact (Below.heap_setCell _ _ _ _ (by simp; omega)).trans (g.keep J.ff (by omega))
abbrev Z0 : Array Value := #[I 0, .string ⟨#[]⟩, .string ⟨#[]⟩, I 0, I 0, I 0, I 0, I 0, .slice none 0 0]
set_option maxRecDepth 100000 in
set_option maxHeartbeats 1000000 in
theorem decode_in (b : List UInt8) (a : Option Addr) (n cap : Nat) (hn : n = b.length) (hc : b.length ≤ cap) (hm : cap ≤ maxLen) (hnn : a = none → cap = 0) (w : World) (hb : By w w.heap.size a b) :
    CallsIn Fence.wide 5 Try.prog 47 #[.slice a n cap] w fun e w' => ((dwhy b ≠ 0 ∧ e = .returned (.tuple #[.agg Z0, I 0, I (dwhy b)])) ∨ (dwhy b = 0 ∧ ∃ v, e = .returned (.tuple #[.agg ((dcc b).cs v), I (b.length - (q9 b).1.length : Nat), I 0]) ∧ Bw w' w.heap.size v (dcc b).data)) ∧ Below w.heap.size w w' := by
  have hro : Fence.wide.round = none := rfl
  subst hn
  have HI := hide (⟨hc, hm, hnn, hb⟩ : _ ∧ _ ∧ _ ∧ _)
  clear hc hm hnn hb
  refine callsIn_of_wp_marks Try.func47 rfl trivial ?_ hro
  simp only [Try.ntmps47, List.size_toArray, List.length_cons, List.length_nil, Nat.reduceAdd, Nat.reduceSub, Array.replicate_succ, Array.replicate_zero, List.push_toArray, List.append_toArray, List.nil_append, List.cons_append]
  gi_wp2_with fail
  have HI2 : Hid (b.length ≤ maxLen) := hide (Nat.le_trans (unhide HI).1 (unhide HI).2.1)
  obtain ⟨V, hV, hsz, g0, g1, hB⟩ := alloc2 w (.cells Z0 27) (.cells #[.slice a b.length cap, .bool false] 85)
  rw [hV]
  obtain ⟨hc, hm, hnn, hb⟩ := unhide HI
  have R0 : Rd V w.heap.size (w.heap.size + 1) a cap b false := ⟨g1, hb.below hB, by omega, hc, hm, hnn⟩
  have g0' : V.heap[w.heap.size]? = some (.cells (cc0.cs (.slice none 0 0)) 27) := g0
  generalize hh : w.heap.size = h at *
  refine ⟨trivial, (callsIn_wide.2 (number_any _ _ a cap b false 1 (by omega) V R0)).mono ?_⟩
  rintro e W1 ⟨rfl, hR1, gr1⟩
  have g2 := gr1.keep g0' (by omega)
  have hB1 := hB.trans (gr1.below (by omega) (by omega))
  have hs1 : h + 1 < W1.heap.size := by have := gr1.size; omega
  have HD0 := hide (show ∀ W2 p, Below W1.heap.size W1 W2 → h + 1 < p → W2.heap[p]? = some (.cells ((⟨vN 1 (b, false), [], [], 0, 0, 0, 0, 0, []⟩ : Cc).cs (.slice none 0 0)) 27) → De w W2 h p ⟨vN 1 (b, false), [], [], 0, 0, 0, 0, 0, []⟩ (.slice none 0 0) (rN 1 (b, false)) from fun W2 p g hp hc => by
    obtain ⟨a', c', hr⟩ := hR1
    exact ⟨hB1.trans (g.mono (by omega)), (g.block _ (by omega)).trans g2, ⟨a', c', hr.keep (g.block _ hs1) (g.mono (by omega))⟩, hc, hp⟩)
  clear hR1 gr1 g2 hB1 g0 g0' g1 hB R0 hV hsz hb hnn hm hc HI
  gi_wp2_with fail
  obtain ⟨V2, hV2, hs2, gV2, hB2⟩ := alloc1 W1 (.cells ((⟨vN 1 (b, false), [], [], 0, 0, 0, 0, 0, []⟩ : Cc).cs (.slice none 0 0)) 27)
  change W1.alloc (.cells #[I (nat (tkn 1 b)), .string ⟨#[]⟩, .string ⟨#[]⟩, I 0, I 0, I 0, I 0, I 0, .slice none 0 0] 27) = V2 at hV2
  rw [hV2]
  have HD := hide (unhide HD0 V2 W1.heap.size hB2 hs1 gV2)
  clear hV2 gV2 hB2 HD0 hs2
  generalize W1.heap.size = p at *
  obtain ⟨ra, rc, hrd⟩ := (unhide HD).rd
  refine ⟨trivial, (callsIn_wide.2 (text_q h (h + 1) ra rc _ V2 hrd)).mono ?_⟩
  rintro e W2 ⟨a1, c1, a2, c2, n1, rfl, hn1, by1, rd1, gr1⟩
  have D1 : De w W2 h p ⟨vN 1 (b, false), [], [], 0, 0, 0, 0, 0, []⟩ (.slice none 0 0) (rT (rN 1 (b, false))) := (unhide HD).grow gr1 ⟨a2, c2, rd1⟩
  have hcv := conv_by by1 n1 c1 hn1
  have cc : W2.cell? ⟨p, 1, none⟩ = some (S []) := by rw [cell_of D1.c]; rfl
  have cf : W2.frozen? ⟨p, 1, none⟩ = false := frozen_of D1.c 1
  have HD1 := hide (show De w (W2.setCell ⟨p, 1, none⟩ (S (vT (rN 1 (b, false))))) h p ⟨vN 1 (b, false), vT (rN 1 (b, false)), [], 0, 0, 0, 0, 0, []⟩ (.slice none 0 0) (rT (rN 1 (b, false))) from D1.set 1 _ rfl)
  change ((convert 22 9 (.slice a1 n1 c1)).run Try.prog W2 = .ok (S (vT (rN 1 (b, false)))) W2) at hcv
  clear D1 hrd rd1 gr1 by1 HD hn1
  gi_wp2_with fail
  generalize W2.setCell ⟨p, 1, none⟩ (S (vT (rN 1 (b, false)))) = W3 at *
  clear hcv cc cf
  obtain ⟨ra, rc, hrd⟩ := (unhide HD1).rd
  refine ⟨trivial, (callsIn_wide.2 (text_q h (h + 1) ra rc _ W3 hrd)).mono ?_⟩
  rintro e W4 ⟨a1, c1, a2, c2, n1, rfl, hn1, by1, rd1, gr1⟩
  have D1 : De w W4 h p ⟨vN 1 (b, false), vT (rN 1 (b, false)), [], 0, 0, 0, 0, 0, []⟩ (.slice none 0 0) (rT (rT (rN 1 (b, false)))) := (unhide HD1).grow gr1 ⟨a2, c2, rd1⟩
  have hcv := conv_by by1 n1 c1 hn1
  have cc : W4.cell? ⟨p, 2, none⟩ = some (S []) := by rw [cell_of D1.c]; rfl
  have cf : W4.frozen? ⟨p, 2, none⟩ = false := frozen_of D1.c 2
  have HD2 := hide (show De w (W4.setCell ⟨p, 2, none⟩ (S (vT (rT (rN 1 (b, false)))))) h p (pcc b 0) (.slice none 0 0) (rT (rT (rN 1 (b, false)))) from D1.set 2 _ rfl)
  change ((convert 22 9 (.slice a1 n1 c1)).run Try.prog W4 = .ok (S (vT (rT (rN 1 (b, false))))) W4) at hcv
  clear D1 hrd rd1 gr1 by1 HD1 hn1
  gi_wp2_with fail
  generalize W4.setCell ⟨p, 2, none⟩ (S (vT (rT (rN 1 (b, false))))) = W5 at *
  clear hcv cc cf
  refine ⟨trivial, (callsIn_wide.2 (numbers_any p _ _ rfl)).mono ?_⟩
  rintro e w' ⟨rfl, rfl⟩
  obtain ⟨W6, hW6, hs6, g6, hB6⟩ := alloc1 W5 (.cells #[Pt p 0] 62)
  rw [hW6]
  have HD3 := hide ((unhide HD2).below hB6)
  have hq : p < W5.heap.size := lt_of_heap (unhide HD2).c
  clear HD2 hW6 hB6
  generalize W5.heap.size = q at *
  gi_wp2_with fail
  refine wpIn_range_own hro (by omega) (gf := 44) (lb := #[Pt q 0]) rfl trivial (enters_of Try.func44 (by kernel_rfl) rfl) ?_
  intro r hF hst hpe htm hps has hbo
  obtain ⟨L1, D1, hB2, hs7⟩ := setup W6 r
  rw [hs6] at L1 D1 hs7 ⊢
  have E5 := (unhide HD3).below hB2
  have q5 := (hB2.block q (by omega)).trans g6
  generalize ((W6.alloc (.deferred (some []))).alloc (.loop r)) = W7 at *
  clear HD3 hB2 g6
  have J0 : ∀ W, Below W7.heap.size W7 W → W.heap[q + 3]? = some (.cells (five p) 63) → Dj w W r h p q 0 b := fun W g hf =>
    ⟨(g.block _ (by omega)).trans L1, (g.block _ (by omega)).trans D1, (g.block _ (by omega)).trans q5, hf, E5.below g, hq⟩
  have hx0 : W7.cell? ⟨q, 0, none⟩ = some (Pt p 0) := by rw [cell_of q5]; rfl
  clear E5 q5 L1 D1
  refine (nums_iter (q + 2) q p W7 (fun i W => Dj w W r h p q i b) (fun _ => False) hx0 ?_ (fun i W' J => by rw [show W7.heap.size = q + 3 by omega]; exact J.ff) ?_).mono ?_
  · obtain ⟨V8, hV8, hsV, gV, hBV⟩ := alloc1 W7 (.cells (five p) 63)
    rw [hV8]
    rw [show W7.heap.size = q + 3 by omega] at gV
    exact (J0 V8 hBV gV).drew
  · intro i W8 hi J
    refine yield_own hF hst hpe htm hps has hbo rfl J.l ?_
    clear htm hps has hbo hst hpe J0
    intro rb
    gi_wp2
    refine ⟨J.l, ?_⟩
    have J4 := J.put rb
    generalize W8.putObj (q + 2) (.loop rb) = W9 at *
    gi_wp2_with fail
    obtain ⟨ra, rc, hrd⟩ := J4.de.rd
    refine ⟨trivial, CallsIn.inRound _ ((callsIn_wide.2 (number_q h (h + 1) ra rc _ 4 (by omega) W9 hrd)).mono ?_)⟩
    rintro e X ⟨rfl, hR, gr⟩
    obtain ⟨cx, fx, J5⟩ := J4.call hi gr hR
    have HJ := hide J5
    have hlt : vN 4 (qn b i) < 4294967296 := vN_lt 4 (qn b i)
    clear J J4 J5 hrd hR gr hx0
    gi_wp2_with fail
    rw [sx_wrap _ hlt]
    exact ⟨(unhide HJ).l, (unhide HJ).put r⟩
  · rintro e W8 ⟨rfl, J | hno⟩
    · refine ⟨⟨_, rfl⟩, J.l, ?_⟩
      have J8 := J.put { r with state := .exhausted }
      generalize W8.putObj (q + 2) (.loop { r with state := .exhausted }) = W9 at *
      have HD := hide J8.de
      have HDD := hide J8.dd
      clear J J8 htm hps has hbo hst hpe J0 hx0
      gi_wp2_with fail
      obtain ⟨ra, rc, hrd⟩ := (unhide HD).rd
      refine ⟨trivial, (callsIn_wide.2 (text_q h (h + 1) ra rc _ W9 hrd)).mono ?_⟩
      rintro e W10 ⟨a1, c1, a2, c2, n1, rfl, hn1, by1, rd1, gr1⟩
      have D1 : De w W10 h p (pcc b 5) (.slice none 0 0) (rT (qn b 5)) := (unhide HD).grow gr1 ⟨a2, c2, rd1⟩
      have hle : h ≤ W10.heap.size := Nat.le_of_lt (lt_of_heap D1.rs)
      have dd1 := gr1.keep (unhide HDD) (by omega)
      obtain ⟨v2, W11, hrun, r2, k2⟩ := (Bw.nil W10 h).app hle 22 a1 (vT (qn b 5)) n1 c1 hn1 (by1.mono hle) (by have := vT_len (qn b 5); simp; omega)
      rw [List.nil_append] at r2
      have D2 := D1.kept k2
      have dd2 := k2.keepO dd1 (by simp)
      obtain ⟨va, vn, vc, rfl⟩ := r2.sl
      have cc : W11.cell? ⟨p, 8, none⟩ = some (.slice none 0 0) := by rw [cell_of D2.c]; rfl
      have cf : W11.frozen? ⟨p, 8, none⟩ = false := frozen_of D2.c 8
      have HD3 := hide (show De w (W11.setCell ⟨p, 8, none⟩ (.slice va vn vc)) h p (dcc b) (.slice va vn vc) (rT (qn b 5)) from D2.set 8 _ (pcc_end b _ _))
      have hp := D2.hp
      have HDD3 := hide ((Below.heap_setCell W11 ⟨p, 8, none⟩ (.slice va vn vc) _ (by simp; omega)).trans dd2)
      have HB3 := hide (r2.set D2.c (by decide) (.slice va vn vc) (i := 8))
      have hvn := r2.len
      obtain ⟨W12, hW12⟩ : ∃ X, W11.setCell ⟨p, 8, none⟩ (.slice va vn vc) = X := ⟨_, rfl⟩
      rw [hW12] at HD3 HDD3 HB3
      obtain ⟨x, hx⟩ : ∃ x, x = dcc b := ⟨_, rfl⟩
      rw [← hx] at HD3
      have hxd : x.data = vT (qn b 5) := by rw [hx, dcc_data]
      rw [← hxd] at hvn HB3
      have HVN := hide hvn
      have HX := hide hx
      clear hx hxd
      clear D1 D2 hrd rd1 gr1 by1 HD HDD r2 k2 dd1 dd2 hn1 hle hvn
      have D3 := unhide HD3
      obtain ⟨ra, rc, hrd⟩ := D3.rd
      have rb0 : W12.cell? ⟨h + 1, 0, none⟩ = some (.slice ra (rT (qn b 5)).1.length rc) := by rw [cell_of hrd.b]; rfl
      have rb1 : W12.cell? ⟨h + 1, 1, none⟩ = some (.bool (rT (qn b 5)).2) := by rw [cell_of hrd.b]; rfl
      have rsz := D3.rs
      cases hcut : (rT (qn b 5)).2 with
      | true =>
        have hwhy : dwhy b = 10 := by unfold dwhy q9; rw [if_pos hcut]
        rw [hcut] at rb1
        obtain ⟨X1, X2, X3, X4, X5, X6, X7, X8, X9, ⟨y1, y2, y3, y4, y5, y6, y7, y8, y9⟩, ⟨s1, s2, s3, s4, s5, s6, s7, s8, s9⟩, ⟨f1, f2, f3, f4, f5, f6, f7, f8, f9⟩, gX, grX⟩ := store9 rsz (I 0) (S []) (S []) (I 0) (I 0) (I 0) (I 0) (I 0) (.slice none 0 0)
        have HGX := hide gX
        have HDX := hide (grX.keep (unhide HDD3) (by omega))
        have HBX := hide (D3.be.trans (grX.below (Nat.le_refl _) (Nat.le_of_lt (lt_of_heap rsz))))
        have HW := hide hwhy
        clear gX grX D3 hrd rsz hcut hwhy HD3 HDD3 HB3 rb0
        gi_wp2_with (gi_at_builtin; refine wpListIn_app rfl _ _ 22 22 rfl 22 rfl _ _ (by rfl) (by rfl) _ _ hrun ?_)
        refine ⟨by simp, .inl ⟨_, _, rfl, run_takeDeferred (unhide HDX), ?_⟩⟩
        have q7 := (World.putObj_heap_other (o := .deferred none) (show h ≠ q + 1 by omega)).trans (unhide HGX)
        have be7 := below_put (unhide HBX) (L := q + 1) (by omega) (.deferred none)
        generalize X9.putObj (q + 1) (.deferred none) = X0 at *
        have z0 : X0.cell? ⟨h, 0, none⟩ = some (I 0) := by rw [cell_of q7]; rfl
        have z1 : X0.cell? ⟨h, 1, none⟩ = some (S []) := by rw [cell_of q7]; rfl
        have z2 : X0.cell? ⟨h, 2, none⟩ = some (S []) := by rw [cell_of q7]; rfl
        have z3 : X0.cell? ⟨h, 3, none⟩ = some (I 0) := by rw [cell_of q7]; rfl
        have z4 : X0.cell? ⟨h, 4, none⟩ = some (I 0) := by rw [cell_of q7]; rfl
        have z5 : X0.cell? ⟨h, 5, none⟩ = some (I 0) := by rw [cell_of q7]; rfl
        have z6 : X0.cell? ⟨h, 6, none⟩ = some (I 0) := by rw [cell_of q7]; rfl
        have z7 : X0.cell? ⟨h, 7, none⟩ = some (I 0) := by rw [cell_of q7]; rfl
        have z8 : X0.cell? ⟨h, 8, none⟩ = some (.slice none 0 0) := by rw [cell_of q7]; rfl
        refine ⟨.tuple #[.agg Z0, I 0, I 10], by simp [results, Try.results47, go_sem, z0, z1, z2, z3, z4, z5, z6, z7, z8], .inl ⟨by rw [unhide HW]; decide, by rw [unhide HW]⟩, (by first | exact be7 | (rw [hh]; exact be7))⟩
      | false =>
        rw [hcut] at rb1
        have HC := hide hcut
        have hcc := D3.c
        have p0 : W12.cell? ⟨p, 0, none⟩ = some (I x.op) := by rw [cell_of hcc]; rfl
        have p1 : W12.cell? ⟨p, 1, none⟩ = some (S x.path) := by rw [cell_of hcc]; rfl
        have p2 : W12.cell? ⟨p, 2, none⟩ = some (S x.dst) := by rw [cell_of hcc]; rfl
        have p3 : W12.cell? ⟨p, 3, none⟩ = some (I x.fd) := by rw [cell_of hcc]; rfl
        have p4 : W12.cell? ⟨p, 4, none⟩ = some (I x.fl) := by rw [cell_of hcc]; rfl
        have p5 : W12.cell? ⟨p, 5, none⟩ = some (I x.mo) := by rw [cell_of hcc]; rfl
        have p6 : W12.cell? ⟨p, 6, none⟩ = some (I x.n) := by rw [cell_of hcc]; rfl
        have p7 : W12.cell? ⟨p, 7, none⟩ = some (I x.m) := by rw [cell_of hcc]; rfl
        have p8 : W12.cell? ⟨p, 8, none⟩ = some (.slice va vn vc) := by rw [cell_of hcc]; rfl
        clear hcut D3 hrd rsz hcc rb0
        gi_wp2_with (gi_at_builtin; refine wpListIn_app rfl _ _ 22 22 rfl 22 rfl _ _ (by rfl) (by rfl) _ _ hrun ?_)
        refine ⟨trivial, (callsIn_wide.2 (right_any x va vn vc (unhide HVN) W12)).mono ?_⟩
        rintro e W13 ⟨rfl, hB13⟩
        have D4 := (unhide HD3).below hB13
        have HDD4 := hide ((hB13.block _ (lt_of_heap (unhide HDD3))).trans (unhide HDD3))
        have HB4 := hide ((unhide HB3).below hB13)
        have rsz := D4.rs
        clear HD3 HDD3 HB3 hB13 p0 p1 p2 p3 p4 p5 p6 p7 p8 rb1 hrun cc cf hW12
        by_cases hr : x.right = 0
        · have hwhy : dwhy b = 0 := by unfold dwhy q9; rw [unhide HC, ← unhide HX, hr]; simp
          rw [hr]
          have HD4 := hide D4
          have HW := hide hwhy
          clear D4 rsz hwhy hr
          gi_wp2_with fail
          refine wpIn_quiet ?_
          refine wpIn_region_any (by kernel_rfl) ?_
          have D5 := (unhide HD4).drew
          have dd5 : W13.drew.heap[q + 1]? = some (.deferred (some [])) := unhide HDD4
          have B5 : Bw W13.drew h (.slice va vn vc) x.data := unhide HB4
          obtain ⟨W14, h14⟩ : ∃ X, W13.drew = X := ⟨_, rfl⟩
          change wpAnyIn _ _ _ _ _ _ _ _ _ W13.drew
          rw [h14] at D5 dd5 B5 ⊢
          clear HD4 HDD4 HB4
          have rsz := D5.rs
          have hcc := D5.c
          obtain ⟨ra, rc, hrd⟩ := D5.rd
          have rb0 : W14.cell? ⟨h + 1, 0, none⟩ = some (.slice ra (rT (qn b 5)).1.length rc) := by rw [cell_of hrd.b]; rfl
          have p0 : W14.cell? ⟨p, 0, none⟩ = some (I x.op) := by rw [cell_of hcc]; rfl
          have p1 : W14.cell? ⟨p, 1, none⟩ = some (S x.path) := by rw [cell_of hcc]; rfl
          have p2 : W14.cell? ⟨p, 2, none⟩ = some (S x.dst) := by rw [cell_of hcc]; rfl
          have p3 : W14.cell? ⟨p, 3, none⟩ = some (I x.fd) := by rw [cell_of hcc]; rfl
          have p4 : W14.cell? ⟨p, 4, none⟩ = some (I x.fl) := by rw [cell_of hcc]; rfl
          have p5 : W14.cell? ⟨p, 5, none⟩ = some (I x.mo) := by rw [cell_of hcc]; rfl
          have p6 : W14.cell? ⟨p, 6, none⟩ = some (I x.n) := by rw [cell_of hcc]; rfl
          have p7 : W14.cell? ⟨p, 7, none⟩ = some (I x.m) := by rw [cell_of hcc]; rfl
          have p8 : W14.cell? ⟨p, 8, none⟩ = some (.slice va vn vc) := by rw [cell_of hcc]; rfl
          obtain ⟨X1, X2, X3, X4, X5, X6, X7, X8, X9, ⟨y1, y2, y3, y4, y5, y6, y7, y8, y9⟩, ⟨s1, s2, s3, s4, s5, s6, s7, s8, s9⟩, ⟨f1, f2, f3, f4, f5, f6, f7, f8, f9⟩, gX, grX⟩ := store9 rsz (I x.op) (S x.path) (S x.dst) (I x.fd) (I x.fl) (I x.mo) (I x.n) (I x.m) (.slice va vn vc)
          have rb9 : X9.cell? ⟨h + 1, 0, none⟩ = some (.slice ra (rT (qn b 5)).1.length rc) := by rw [cell_of (grX.keep hrd.b (by omega))]; rfl
          have HGX := hide gX
          have HDX := hide (grX.keep dd5 (by omega))
          have HBX := hide (D5.be.trans (grX.below (Nat.le_refl _) (Nat.le_of_lt (lt_of_heap rsz))))
          have HRX := hide (B5.gr grX rsz (by decide))
          have hql : (rT (qn b 5)).1.length ≤ b.length := Nat.le_trans (rT_le _) (qn_le b 5)
          have hbl : b.length ≤ 9223372036854775807 := Nat.le_trans (unhide HI2) (by decide)
          generalize hL : (rT (qn b 5)).1.length = L at *
          replace hL := hide hL
          have j1 : (L : Int) ≤ (b.length : Int) := by omega
          have j2 : (b.length : Int) ≤ 9223372036854775807 := by omega
          have hbm : Hid (((b.length - L : Nat) : Int) = (b.length : Int) - (L : Int)) := hide (by omega)
          clear gX grX D5 rsz hrd hcc B5 dd5
          refine wpAnyIn_take (i := 1) (v := ?_) rfl rfl (by kernel_rfl) (by kernel_rfl) (by kernel_rfl) (fun _ _ _ h => by cases h.1) ⟨Or.inl ⟨by rfl, ?hy⟩, fun _ => rfl⟩ ?_
          case hy => intro w; go_simp; all_goals with_reducible rfl
          refine wpAnyIn_take (i := 2) (v := ?_) rfl rfl (by kernel_rfl) (by kernel_rfl) (by kernel_rfl) (fun _ _ _ h => by cases h.1) ⟨Or.inl ⟨by rfl, ?hy⟩, fun _ => rfl⟩ ?_
          case hy => intro w; go_simp; all_goals with_reducible rfl
          refine wpAnyIn_take (i := 3) (v := ?_) rfl rfl (by kernel_rfl) (by kernel_rfl) (by kernel_rfl) (fun _ _ _ h => by cases h.1) ⟨Or.inl ⟨by rfl, ?hy⟩, fun _ => rfl⟩ ?_
          case hy => intro w; go_simp; all_goals with_reducible rfl
          refine wpAnyIn_ready (rs := [0, 4]) (by kernel_rfl) (by simp) ?_
          refine AllReadyIn.cons rfl (fun K hK => ?_) ?_
          · go_simp
            refine hK _ _ ?_
            clear hK K
            refine wpAnyIn_ready (rs := [4, 7]) (by kernel_rfl) (by simp) ?_
            refine AllReadyIn.cons rfl (fun K hK => ?_) ?_
            · go_simp
              refine hK _ _ ?_
              clear hK K
              refine wpAnyIn_take (i := 5) (v := ?_) rfl rfl (by kernel_rfl) (by kernel_rfl) (by kernel_rfl) (fun _ _ _ h => by cases h.1) ⟨Or.inl ⟨by rfl, ?hy⟩, fun _ => rfl⟩ ?_
              case hy => intro w; go_simp; all_goals with_reducible rfl
              refine wpAnyIn_take (i := 6) (v := ?_) rfl rfl (by kernel_rfl) (by kernel_rfl) (by kernel_rfl) (fun _ _ _ h => by cases h.1) ⟨Or.inl ⟨by rfl, ?hy⟩, fun _ => rfl⟩ ?_
              case hy => intro w; go_simp; all_goals with_reducible rfl
              refine wpAnyIn_ready (rs := [7]) (by kernel_rfl) (by simp) ?_
              refine AllReadyIn.cons rfl (fun K hK => ?_) ?_
              · go_simp
                refine hK _ _ ?_
                clear hK K
                refine wpAnyIn_ready (rs := [8]) (by kernel_rfl) (by simp) ?_
                refine AllReadyIn.cons rfl (fun K hK => ?_) ?_
                · go_simp
                  refine hK _ _ ?_
                  clear hK K
                  refine wpAnyIn_ready (rs := [9]) (by kernel_rfl) (by simp) ?_
                  refine AllReadyIn.cons rfl (fun K hK => ?_) ?_
                  · go_simp
                    refine hK _ _ ?_
                    clear hK K
                    refine wpAnyIn_done (by kernel_rfl) ⟨rfl, ?_⟩ _
                    gi_wp2_with fail
                    refine ⟨by simp, .inl ⟨_, _, rfl, run_takeDeferred (unhide HDX), ?_⟩⟩
                    have q7 := (World.putObj_heap_other (o := .deferred none) (show h ≠ q + 1 by omega)).trans (unhide HGX)
                    have be7 := below_put (unhide HBX) (L := q + 1) (by omega) (.deferred none)
                    have r7 := (unhide HRX).putO (unhide HDX) (by simp) (.deferred none)
                    generalize X9.putObj (q + 1) (.deferred none) = X0 at *
                    have z0 : X0.cell? ⟨h, 0, none⟩ = some (I x.op) := by rw [cell_of q7]; rfl
                    have z1 : X0.cell? ⟨h, 1, none⟩ = some (S x.path) := by rw [cell_of q7]; rfl
                    have z2 : X0.cell? ⟨h, 2, none⟩ = some (S x.dst) := by rw [cell_of q7]; rfl
                    have z3 : X0.cell? ⟨h, 3, none⟩ = some (I x.fd) := by rw [cell_of q7]; rfl
                    have z4 : X0.cell? ⟨h, 4, none⟩ = some (I x.fl) := by rw [cell_of q7]; rfl
                    have z5 : X0.cell? ⟨h, 5, none⟩ = some (I x.mo) := by rw [cell_of q7]; rfl
                    have z6 : X0.cell? ⟨h, 6, none⟩ = some (I x.n) := by rw [cell_of q7]; rfl
                    have z7 : X0.cell? ⟨h, 7, none⟩ = some (I x.m) := by rw [cell_of q7]; rfl
                    have z8 : X0.cell? ⟨h, 8, none⟩ = some (.slice va vn vc) := by rw [cell_of q7]; rfl
                    refine ⟨.tuple #[.agg (x.cs (.slice va vn vc)), I ((b.length - L : Nat) : Int), I 0], by simp [results, Try.results47, go_sem, z0, z1, z2, z3, z4, z5, z6, z7, z8, unhide hbm]; rw [IntKind.wrap_i64]; omega, .inr ⟨unhide HW, .slice va vn vc, ?_, ?_⟩, (by first | exact be7 | (rw [hh]; exact be7))⟩
                    · rw [← unhide HX]; unfold q9; rw [unhide hL]
                    · rw [← unhide HX]; first | exact r7 | (rw [hh]; exact r7)
                  exact AllReadyIn.nil
                exact AllReadyIn.nil
              exact AllReadyIn.nil
            refine AllReadyIn.cons rfl (fun K hK => ?_) ?_
            · go_simp
              refine hK _ _ ?_
              clear hK K
              refine wpAnyIn_ready (rs := [4]) (by kernel_rfl) (by simp) ?_
              refine AllReadyIn.cons rfl (fun K hK => ?_) ?_
              · go_simp
                refine hK _ _ ?_
                clear hK K
                refine wpAnyIn_take (i := 5) (v := ?_) rfl rfl (by kernel_rfl) (by kernel_rfl) (by kernel_rfl) (fun _ _ _ h => by cases h.1) ⟨Or.inl ⟨by rfl, ?hy⟩, fun _ => rfl⟩ ?_
                case hy => intro w; go_simp; all_goals with_reducible rfl
                refine wpAnyIn_take (i := 6) (v := ?_) rfl rfl (by kernel_rfl) (by kernel_rfl) (by kernel_rfl) (fun _ _ _ h => by cases h.1) ⟨Or.inl ⟨by rfl, ?hy⟩, fun _ => rfl⟩ ?_
                case hy => intro w; go_simp; all_goals with_reducible rfl
                refine wpAnyIn_ready (rs := [8]) (by kernel_rfl) (by simp) ?_
                refine AllReadyIn.cons rfl (fun K hK => ?_) ?_
                · go_simp
                  refine hK _ _ ?_
                  clear hK K
                  refine wpAnyIn_ready (rs := [9]) (by kernel_rfl) (by simp) ?_
                  refine AllReadyIn.cons rfl (fun K hK => ?_) ?_
                  · go_simp
                    refine hK _ _ ?_
                    clear hK K
                    refine wpAnyIn_done (by kernel_rfl) ⟨rfl, ?_⟩ _
                    gi_wp2_with fail
                    refine ⟨by simp, .inl ⟨_, _, rfl, run_takeDeferred (unhide HDX), ?_⟩⟩
                    have q7 := (World.putObj_heap_other (o := .deferred none) (show h ≠ q + 1 by omega)).trans (unhide HGX)
                    have be7 := below_put (unhide HBX) (L := q + 1) (by omega) (.deferred none)
                    have r7 := (unhide HRX).putO (unhide HDX) (by simp) (.deferred none)
                    generalize X9.putObj (q + 1) (.deferred none) = X0 at *
                    have z0 : X0.cell? ⟨h, 0, none⟩ = some (I x.op) := by rw [cell_of q7]; rfl
                    have z1 : X0.cell? ⟨h, 1, none⟩ = some (S x.path) := by rw [cell_of q7]; rfl
                    have z2 : X0.cell? ⟨h, 2, none⟩ = some (S x.dst) := by rw [cell_of q7]; rfl
                    have z3 : X0.cell? ⟨h, 3, none⟩ = some (I x.fd) := by rw [cell_of q7]; rfl
                    have z4 : X0.cell? ⟨h, 4, none⟩ = some (I x.fl) := by rw [cell_of q7]; rfl
                    have z5 : X0.cell? ⟨h, 5, none⟩ = some (I x.mo) := by rw [cell_of q7]; rfl
                    have z6 : X0.cell? ⟨h, 6, none⟩ = some (I x.n) := by rw [cell_of q7]; rfl
                    have z7 : X0.cell? ⟨h, 7, none⟩ = some (I x.m) := by rw [cell_of q7]; rfl
                    have z8 : X0.cell? ⟨h, 8, none⟩ = some (.slice va vn vc) := by rw [cell_of q7]; rfl
                    refine ⟨.tuple #[.agg (x.cs (.slice va vn vc)), I ((b.length - L : Nat) : Int), I 0], by simp [results, Try.results47, go_sem, z0, z1, z2, z3, z4, z5, z6, z7, z8, unhide hbm]; rw [IntKind.wrap_i64]; omega, .inr ⟨unhide HW, .slice va vn vc, ?_, ?_⟩, (by first | exact be7 | (rw [hh]; exact be7))⟩
                    · rw [← unhide HX]; unfold q9; rw [unhide hL]
                    · rw [← unhide HX]; first | exact r7 | (rw [hh]; exact r7)
                  exact AllReadyIn.nil
                exact AllReadyIn.nil
              exact AllReadyIn.nil
            exact AllReadyIn.nil
          refine AllReadyIn.cons rfl (fun K hK => ?_) ?_
          · go_simp
            refine hK _ _ ?_
            clear hK K
            refine wpAnyIn_take (i := 5) (v := ?_) rfl rfl (by kernel_rfl) (by kernel_rfl) (by kernel_rfl) (fun _ _ _ h => by cases h.1) ⟨Or.inl ⟨by rfl, ?hy⟩, fun _ => rfl⟩ ?_
            case hy => intro w; go_simp; all_goals with_reducible rfl
            refine wpAnyIn_take (i := 6) (v := ?_) rfl rfl (by kernel_rfl) (by kernel_rfl) (by kernel_rfl) (fun _ _ _ h => by cases h.1) ⟨Or.inl ⟨by rfl, ?hy⟩, fun _ => rfl⟩ ?_
            case hy => intro w; go_simp; all_goals with_reducible rfl
            refine wpAnyIn_ready (rs := [0]) (by kernel_rfl) (by simp) ?_
            refine AllReadyIn.cons rfl (fun K hK => ?_) ?_
            · go_simp
              refine hK _ _ ?_
              clear hK K
              refine wpAnyIn_ready (rs := [7]) (by kernel_rfl) (by simp) ?_
              refine AllReadyIn.cons rfl (fun K hK => ?_) ?_
              · go_simp
                refine hK _ _ ?_
                clear hK K
                refine wpAnyIn_ready (rs := [8]) (by kernel_rfl) (by simp) ?_
                refine AllReadyIn.cons rfl (fun K hK => ?_) ?_
                · go_simp
                  refine hK _ _ ?_
                  clear hK K
                  refine wpAnyIn_ready (rs := [9]) (by kernel_rfl) (by simp) ?_
                  refine AllReadyIn.cons rfl (fun K hK => ?_) ?_
                  · go_simp
                    refine hK _ _ ?_
                    clear hK K
                    refine wpAnyIn_done (by kernel_rfl) ⟨rfl, ?_⟩ _
                    gi_wp2_with fail
                    refine ⟨by simp, .inl ⟨_, _, rfl, run_takeDeferred (unhide HDX), ?_⟩⟩
                    have q7 := (World.putObj_heap_other (o := .deferred none) (show h ≠ q + 1 by omega)).trans (unhide HGX)
                    have be7 := below_put (unhide HBX) (L := q + 1) (by omega) (.deferred none)
                    have r7 := (unhide HRX).putO (unhide HDX) (by simp) (.deferred none)
                    generalize X9.putObj (q + 1) (.deferred none) = X0 at *
                    have z0 : X0.cell? ⟨h, 0, none⟩ = some (I x.op) := by rw [cell_of q7]; rfl
                    have z1 : X0.cell? ⟨h, 1, none⟩ = some (S x.path) := by rw [cell_of q7]; rfl
                    have z2 : X0.cell? ⟨h, 2, none⟩ = some (S x.dst) := by rw [cell_of q7]; rfl
                    have z3 : X0.cell? ⟨h, 3, none⟩ = some (I x.fd) := by rw [cell_of q7]; rfl
                    have z4 : X0.cell? ⟨h, 4, none⟩ = some (I x.fl) := by rw [cell_of q7]; rfl
                    have z5 : X0.cell? ⟨h, 5, none⟩ = some (I x.mo) := by rw [cell_of q7]; rfl
                    have z6 : X0.cell? ⟨h, 6, none⟩ = some (I x.n) := by rw [cell_of q7]; rfl
                    have z7 : X0.cell? ⟨h, 7, none⟩ = some (I x.m) := by rw [cell_of q7]; rfl
                    have z8 : X0.cell? ⟨h, 8, none⟩ = some (.slice va vn vc) := by rw [cell_of q7]; rfl
                    refine ⟨.tuple #[.agg (x.cs (.slice va vn vc)), I ((b.length - L : Nat) : Int), I 0], by simp [results, Try.results47, go_sem, z0, z1, z2, z3, z4, z5, z6, z7, z8, unhide hbm]; rw [IntKind.wrap_i64]; omega, .inr ⟨unhide HW, .slice va vn vc, ?_, ?_⟩, (by first | exact be7 | (rw [hh]; exact be7))⟩
                    · rw [← unhide HX]; unfold q9; rw [unhide hL]
                    · rw [← unhide HX]; first | exact r7 | (rw [hh]; exact r7)
                  exact AllReadyIn.nil
                exact AllReadyIn.nil
              exact AllReadyIn.nil
            exact AllReadyIn.nil
          exact AllReadyIn.nil
        · have hwhy : dwhy b = x.right := by unfold dwhy q9; rw [unhide HC, unhide HX]; simp
          have hr2 : (x.right == 0) = false := by simpa using hr
          have hr3 : (x.right != 0) = true := by simpa using hr
          obtain ⟨X1, X2, X3, X4, X5, X6, X7, X8, X9, ⟨y1, y2, y3, y4, y5, y6, y7, y8, y9⟩, ⟨s1, s2, s3, s4, s5, s6, s7, s8, s9⟩, ⟨f1, f2, f3, f4, f5, f6, f7, f8, f9⟩, gX, grX⟩ := store9 rsz (I 0) (S []) (S []) (I 0) (I 0) (I 0) (I 0) (I 0) (.slice none 0 0)
          have HGX := hide gX
          have HDX := hide (grX.keep (unhide HDD4) (by omega))
          have HBX := hide (D4.be.trans (grX.below (Nat.le_refl _) (Nat.le_of_lt (lt_of_heap rsz))))
          have HW := hide hwhy
          have HR := hide hr
          clear gX grX D4 rsz hwhy HDD4 HB4
          gi_wp2_with fail
          refine ⟨by simp, .inl ⟨_, _, rfl, run_takeDeferred (unhide HDX), ?_⟩⟩
          have q7 := (World.putObj_heap_other (o := .deferred none) (show h ≠ q + 1 by omega)).trans (unhide HGX)
          have be7 := below_put (unhide HBX) (L := q + 1) (by omega) (.deferred none)
          generalize X9.putObj (q + 1) (.deferred none) = X0 at *
          have z0 : X0.cell? ⟨h, 0, none⟩ = some (I 0) := by rw [cell_of q7]; rfl
          have z1 : X0.cell? ⟨h, 1, none⟩ = some (S []) := by rw [cell_of q7]; rfl
          have z2 : X0.cell? ⟨h, 2, none⟩ = some (S []) := by rw [cell_of q7]; rfl
          have z3 : X0.cell? ⟨h, 3, none⟩ = some (I 0) := by rw [cell_of q7]; rfl
          have z4 : X0.cell? ⟨h, 4, none⟩ = some (I 0) := by rw [cell_of q7]; rfl
          have z5 : X0.cell? ⟨h, 5, none⟩ = some (I 0) := by rw [cell_of q7]; rfl
          have z6 : X0.cell? ⟨h, 6, none⟩ = some (I 0) := by rw [cell_of q7]; rfl
          have z7 : X0.cell? ⟨h, 7, none⟩ = some (I 0) := by rw [cell_of q7]; rfl
          have z8 : X0.cell? ⟨h, 8, none⟩ = some (.slice none 0 0) := by rw [cell_of q7]; rfl
          refine ⟨.tuple #[.agg Z0, I 0, I x.right], by simp [results, Try.results47, go_sem, z0, z1, z2, z3, z4, z5, z6, z7, z8], .inl ⟨by rw [unhide HW]; exact unhide HR, by rw [unhide HW]⟩, (by first | exact be7 | (rw [hh]; exact be7))⟩
    · exact hno.elim
/-- Decode. -/
theorem decode_any (b : List UInt8) (a : Option Addr) (n cap : Nat) (hn : n = b.length) (hc : b.length ≤ cap) (hm : cap ≤ maxLen) (hnn : a = none → cap = 0) (w : World) (hb : By w w.heap.size a b) :
    Calls Try.prog 47 #[.slice a n cap] w fun e w' => ((dwhy b ≠ 0 ∧ e = .returned (.tuple #[.agg Z0, I 0, I (dwhy b)])) ∨ (dwhy b = 0 ∧ ∃ v, e = .returned (.tuple #[.agg ((dcc b).cs v), I (b.length - (q9 b).1.length : Nat), I 0]) ∧ Bw w' w.heap.size v (dcc b).data)) ∧ Below w.heap.size w w' := callsIn_wide.1 (decode_in b a n cap hn hc hm hnn w hb)
end Go.Proofs.Ytcopjhidijhlaaa.Cl
