/-
  The contracts of Defer, Leave and Inside.
-/
import Derived.Test.YtkgcgfnleabkdaaPoll
import Derived.Deep.RegionLaw
namespace Go.Proofs.Ytkgcgfnleabkdaa
open Go.RowKit
attribute [local go_sem ↓] Go.wp_at_zero Go.wp_at_succ

/-- An append whose run is known, at a step of a region that draws its order. -/
theorem step_append_eq {P : Program} {w : World} {ops : Array Oper} {o : Oper} {a : Act} {K : Act → World → Prop} {Q : Exit → Act → World → Prop} {E : Prop} (hgd : o.guard = none) (s x : Operand) (t : TypeId)
    (ho : o.op = .call { callee := .builtin .append, args := #[s, x], argTypes := #[t, t] }) (ty : TypeId) (hty : o.type = ty) (vs vx : Value) (hs : a.eval s = vs) (hx : a.eval x = vx) (v' : Value) (w' : World)
    (hrun : (Builtin.append_ #[t, t] ty #[vs, vx]).run P w = .ok v' w') (h : K (a.put o.dst v') w') :
    if Region.wanted o (yielded ops a.tmps) = true then Oper.wp P o a w K Q else E := by
  have hw : Region.wanted o (yielded ops a.tmps) = true := by simp [Region.wanted, hgd]
  rw [if_pos hw]
  unfold Oper.wp execOp
  simp only [ho, resolve, invoke, builtin, Sem.run_bind, Sem.run_pure, Result.andThen_ok, List.map_toArray, List.map_cons, List.map_nil, hs, hx, hty, hrun]
  exact h

set_option maxHeartbeats 1000000 in
theorem inside_all (base b c n : Nat) (ss : List Int) (ws : List Wt) (w : World) (hG : Gr base w b c n ss ws) :
    Calls Try.prog 17 #[.pointer (some ⟨b, 0, none⟩)] w fun e w' => ∃ v, e = .returned v ∧ w'.ownsRow w.heap.size 3 1 v (rises (ins ss) 8).length (ints (rises (ins ss) 8)) ∧ Below w.heap.size w w' := by
  go_enter Try.func17, Try.ntmps17
  go_wp2_with fail
  refine (inside_any base b c n ss ws w hG).mono ?_
  rintro e w1 ⟨rfl, hB1⟩
  go_wp2_with fail
  refine (rising_any (ins ss) w1).mono ?_
  rintro e w2 ⟨v, rfl, own, hB2⟩
  go_wp2_with fail
  go_ret
  exact ⟨v, rfl, own_base own hB1.size, hB1.trans (hB2.mono hB1.size)⟩

set_option maxHeartbeats 400000 in
theorem defer_full (base b c n : Nat) (id : Int) (ss : List Int) (ws : List Wt) (w : World) (hG : Gr base w b c n ss ws) (hws : 16 ≤ ws.length) :
    Calls Try.prog 9 #[.pointer (some ⟨b, 0, none⟩), .int .i64 id] w fun e w' => e = .returned (.tuple #[.bool false, .int .i64 13]) ∧ w' = w := by
  obtain ⟨a, cap, h0, h1, hf, hg, ho⟩ := hG.cells
  generalize ws.length = m at *
  have k1 : ¬ (m : Int) < 16 := by omega
  have k2 : (16 : Int) ≤ (m : Int) := by omega
  clear hG ho
  go_enter Try.func9, Try.ntmps9
  go_wp2_with fail
  go_ret2
  exact ⟨rfl, rfl⟩

theorem own_append {W W5 : World} {b c n : Nat} {base : Nat} {ss : List Int} {ws : List Wt} {o' : Obj} {a : Option Addr} {m cap : Nat} {a' : Option Addr} {m' cap' : Nat} {ws' : List Wt} (G : Gr base W b c n ss ws) (own : W.ownsRow base 58 9 (.slice a m cap) m (rowsOf Wt.row ws)) (hg : (W.alloc o').grownBy W5 (Value.slice a m cap).ownBlock)
    (own' : W5.ownsRow base 58 9 (.slice a' m' cap') m' (rowsOf Wt.row ws')) (hm : ws'.length = m') :
    Gr base (W5.setCell ⟨b, 1, none⟩ (.slice a' m' cap')) b c n ss ws' ∧ W5.heap[b]? = W.heap[b]? ∧ Fr base b c W (W5.setCell ⟨b, 1, none⟩ (.slice a' m' cap')) := by
  obtain ⟨a0, cap0, h1, h2⟩ := G.hb
  have hb5 := grown_keep own hg h1 (by simp)
  have hc5 := grown_keep own hg G.hc (by simp)
  subst hm
  have hbs := G.base_le
  refine ⟨⟨⟨a', cap', ?_, own_keep own' fun k cur hc => Below.heap_setCell _ _ _ _ ?_⟩, (Below.heap_setCell _ _ _ _ (Ne.symm G.nb)).trans hc5, G.len, G.lo, G.hi, G.kb, G.kc⟩, hb5.trans h1.symm, ?_⟩
  · rw [heap_set hb5]; simp
  · rintro rfl
    rw [hb5] at hc
    simp at hc
  · have hB := below_grown (w := W) (base := base) ((Below.refl base W).alloc hbs o') (own_keep (W' := W.alloc o') own fun k cur hc => Below.heap_alloc _ _ _ (lt_of_heap hc)) hg (by simp; omega)
    refine Fr.set ⟨hB.os, hB.tape, hB.output, hB.size, hB.block, fun k o h1 _ _ h4 => grown_keep own hg h1 h4⟩ (p := ⟨b, 1, none⟩) (.inl rfl) G.kb G.kc _

set_option maxRecDepth 100000 in
set_option maxHeartbeats 1000000 in
theorem defer_ok (base b c n : Nat) (id : Int) (ss : List Int) (ws : List Wt) (w : World) (hG : Gr base w b c n ss ws) (hws : ws.length < 16) :
    Calls Try.prog 9 #[.pointer (some ⟨b, 0, none⟩), .int .i64 id] w fun e w' => e = .returned (.tuple #[.bool (none8 (ins ss)), .int .i64 0]) ∧ Gr base w' b c n ss (ws ++ [⟨id, ins ss⟩]) ∧ Fr base b c w w' := by
  obtain ⟨a, cap, h0, h1, hf, hg, ho⟩ := hG.cells
  have HG := hide hG
  have HI := hide (inside_any base b c n ss ws w hG)
  have hbs := hG.base_le
  clear hG ho
  obtain ⟨m, hm⟩ : ∃ m, ws.length = m := ⟨_, rfl⟩
  rw [hm] at h1
  have k1 : (m : Int) < 16 := by omega
  have HM := hide hm
  clear hm hws
  go_enter Try.func9, Try.ntmps9
  go_wp2_with fail
  refine (unhide HI).mono ?_
  rintro e w1 ⟨rfl, hB1⟩
  clear h0 h1 hf hg HI
  generalize hF : ins ss = f at *
  have HF := hide hF
  clear hF
  go_wp2_with fail
  have hB2 : Below w.heap.size w (w1.alloc (box8 f)) := hB1.alloc hB1.size _
  have kx := putAll (w := w1) (box8 f) w1.heap.size rfl
  have hxs := hB1.size
  generalize hxx : w1.heap.size = x at *
  generalize w1.alloc (box8 f) = V at *
  have G2 : Gr base V b c n ss ws := (unhide HG).below hB2
  have hxlt := lt_of_heap kx
  clear hB1 hxx
  obtain ⟨a2, cap2, h0, h1, hf, hg, own⟩ := G2.cells
  obtain ⟨c0, c1, c2, c3, c4, c5, c6, c7⟩ := bits_cells (f := f) kx
  rw [unhide HM] at h1 own
  obtain ⟨i0, hi, hz0, hz1, hz2⟩ := info_parts info58
  have own5 := own_keep (W' := V.drew.alloc (.cells #[.int .i64 id, .bool (f 0), .bool (f 1), .bool (f 2), .bool (f 3), .bool (f 4), .bool (f 5), .bool (f 6), .bool (f 7)] 58)) own (fun k cur hc => Below.heap_alloc V.drew _ _ (lt_of_heap hc))
  obtain ⟨v', W5, hrun, own7, hgr, -, -⟩ := run_append_own_at (P := Try.prog) (V.drew.alloc (.cells #[.int .i64 id, .bool (f 0), .bool (f 1), .bool (f 2), .bool (f 3), .bool (f 4), .bool (f 5), .bool (f 6), .bool (f 7)] 58)) base 51 51 58 i0 _ 9 16 Try.underlying51 hi hz0 hz1 hz2 rfl (by decide) (.slice a2 m cap2) _ _ own5 ⟨V.drew.heap.size, 0, none⟩ 1 1 (Wt.row ⟨id, f⟩) rfl (cells_new V.drew (Wt.row ⟨id, f⟩) 58) (row_one ⟨id, f⟩) (by unfold maxLen; omega) (by omega) (by simp; have := hB2.size; omega)
  obtain ⟨g', cp, rfl⟩ := own_form own7
  have own8 : W5.ownsRow base 58 9 (.slice g' (m + 1) cp) (m + 1) (rowsOf Wt.row (ws ++ [⟨id, f⟩])) := by rw [rowsOf_append]; simpa [rowsOf] using own7
  have ownd : V.drew.ownsRow base 58 9 (.slice a2 m cap2) m (rowsOf Wt.row ws) := own_keep own fun _ _ _ => rfl
  obtain ⟨G5, hb5, F5⟩ := own_append G2.drew ownd hgr own8 (by simp [unhide HM])
  have q1 : W5.cell? ⟨b, 1, none⟩ = some (.slice a2 m cap2) := (World.cell?_of_block (w := V.drew) (a := ⟨b, 1, none⟩) hb5).trans h1
  have qf : ∀ i, W5.frozen? ⟨b, i, none⟩ = false := by
    intro i
    have := hf i
    unfold World.frozen? at this ⊢
    rw [hb5]; exact this
  have kx5 := grown_keep ownd hgr (k := x) kx (by simp)
  have hbx : b ≠ x := by have := (unhide HG).lt; omega
  have kx6 : (W5.setCell ⟨b, 1, none⟩ (.slice g' (m + 1) cp)).heap[x]? = some (box8 f) := (Below.heap_setCell _ _ _ _ (Ne.symm hbx)).trans kx5
  obtain ⟨y0, y1, y2, y3, y4, y5, y6, y7⟩ := bits_cells (f := f) kx6
  have FF : Fr base b c w (W5.setCell ⟨b, 1, none⟩ (.slice g' (m + 1) cp)) := ((Fr.of_below hB2 hbs).drew).trans F5
  have HG5 := hide G5
  have HFF := hide FF
  have HB5 := hide hb5
  have c0x : (V.alloc (.cells #[.int .i64 id, .bool (f 0), .bool (f 1), .bool (f 2), .bool (f 3), .bool (f 4), .bool (f 5), .bool (f 6), .bool (f 7)] 58)).cell? ⟨b, 1, none⟩ = some (.slice a2 m cap2) := (World.cell?_alloc_past _ _ _ (by have := G2.lt; exact this.1)).trans h1
  clear own own5 own7 own8 ownd hgr G5 F5 FF kx kx5 kx6 G2 hB2 HG hb5 hxs
  go_region_law (refine step_append_eq (by rfl) _ _ 51 (by rfl) 51 (by rfl) _ _ (by rfl) (by rfl) _ _ hrun ?_)
  all_goals
    generalize W5.setCell ⟨b, 1, none⟩ (.slice g' (m + 1) cp) = W6 at *
    go_wp2_with fail
    refine (empty_any f W6).mono ?_
    rintro e W7 ⟨rfl, hB7⟩
    have HB7 := hide hB7
    clear hB7
    go_wp2_with fail
    go_ret2
    rw [unhide HF]
    exact ⟨rfl, (unhide HG5).below (unhide HB7), (unhide HFF).trans (.of_below (unhide HB7) (unhide HG5).base_le)⟩

/-- Leave. -/
theorem leave_no (base : Nat) (b c n : Nat) (r : Int) (ss : List Int) (ws : List Wt) (w : World) (h : Gr base w b c n ss ws) (hr : r < 0 ∨ (n : Int) ≤ r) :
    Calls Try.prog 12 #[.pointer (some ⟨b, 0, none⟩), .int .i64 r] w fun e w' => e = .returned (.int .i64 1) ∧ w' = w := by
  have HN := hide (has_no base b c n r ss ws w h hr)
  clear h hr
  go_enter Try.func12, Try.ntmps12
  go_wp2_with fail
  refine (unhide HN).mono ?_
  rintro e w1 ⟨rfl, rfl⟩
  go_wp2_with fail
  go_ret
  exact ⟨rfl, rfl⟩
set_option maxHeartbeats 400000 in
theorem leave_past (base : Nat) (b c n k : Nat) (ss : List Int) (ws : List Wt) (w : World) (h : Gr base w b c n ss ws) (hk : ss[k]? = some 0) :
    Calls Try.prog 12 #[.pointer (some ⟨b, 0, none⟩), .int .i64 (k : Int)] w fun e w' => e = .returned (.int .i64 16) ∧ w' = w := by
  have hkn := h.klt hk
  have HN := hide (has_yes base b c n k ss ws w h hkn)
  obtain ⟨a, cap, h0, h1, hf, hg, ho⟩ := h.cells
  have hs := h.sec hk
  have k1 : (k : Int) < (n : Int) := by omega
  have k2 : (0 : Int) ≤ (k : Int) := by omega
  clear h ho hk
  go_enter Try.func12, Try.ntmps12
  go_wp2_with fail
  refine (unhide HN).mono ?_
  rintro e w1 ⟨rfl, rfl⟩
  go_wp2_with fail
  go_ret
  exact ⟨rfl, rfl⟩
set_option maxHeartbeats 400000 in
theorem leave_deep (base : Nat) (b c n k : Nat) (s : Int) (ss : List Int) (ws : List Wt) (w : World) (h : Gr base w b c n ss ws) (hk : ss[k]? = some s) (s0 : 1 < s) (s1 : s ≤ 1000000) :
    Calls Try.prog 12 #[.pointer (some ⟨b, 0, none⟩), .int .i64 (k : Int)] w fun e w' => e = .returned (.int .i64 0) ∧ Gr base w' b c n (ss.set k (s - 1)) ws ∧ Fr base b c w w' := by
  have hkn := h.klt hk
  have HN := hide (has_yes base b c n k ss ws w h hkn)
  obtain ⟨a, cap, h0, h1, hf, hg, ho⟩ := h.cells
  have hs := h.sec hk
  have k1 : (k : Int) < (n : Int) := by omega
  have k2 : (0 : Int) ≤ (k : Int) := by omega
  have HG := hide (h.setSec k (s - 1))
  have HB := hide h.kb
  have HC := hide h.kc
  have hnb := h.nb
  have z1 : ¬ s = 0 := by omega
  have z2 : ¬ s - 1 = 0 := by omega
  clear h ho hk
  go_enter Try.func12, Try.ntmps12
  go_wp2_with fail
  refine (unhide HN).mono ?_
  rintro e w1 ⟨rfl, rfl⟩
  go_wp2_with fail
  go_ret
  exact ⟨rfl, unhide HG, (Fr.refl base b c w1).set (p := ⟨c, k, none⟩) (.inr rfl) (unhide HB) (unhide HC) _⟩
set_option maxHeartbeats 400000 in
theorem leave_out (base : Nat) (b c n k : Nat) (ss : List Int) (ws : List Wt) (w : World) (h : Gr base w b c n ss ws) (hws : ws.length ≤ 16) (hk : ss[k]? = some 1) :
    Calls Try.prog 12 #[.pointer (some ⟨b, 0, none⟩), .int .i64 (k : Int)] w fun e w' => e = .returned (.int .i64 0) ∧ Gr base w' b c n (ss.set k 0) (ws.map (clr k)) ∧ Fr base b c w w' := by
  have hkn := h.klt hk
  have HN := hide (has_yes base b c n k ss ws w h hkn)
  obtain ⟨a, cap, h0, h1, hf, hg, ho⟩ := h.cells
  have hs := h.sec hk
  have k1 : (k : Int) < (n : Int) := by omega
  have k2 : (0 : Int) ≤ (k : Int) := by omega
  have HR := hide (release_all base b c n k (ss.set k 0) ws _ (h.setSec k 0) hws (by have := h.hi; omega))
  have HB := hide h.kb
  have HC := hide h.kc
  have hnb := h.nb
  clear h ho hk
  go_enter Try.func12, Try.ntmps12
  go_wp2_with fail
  refine (unhide HN).mono ?_
  rintro e w1 ⟨rfl, rfl⟩
  go_wp2_with fail
  refine (unhide HR).mono ?_
  rintro e w2 ⟨rfl, hG2, hF2⟩
  go_wp2_with fail
  go_ret
  exact ⟨rfl, hG2, ((Fr.refl base b c w1).set (p := ⟨c, k, none⟩) (.inr rfl) (unhide HB) (unhide HC) _).trans hF2⟩
end Go.Proofs.Ytkgcgfnleabkdaa
