/-
  Same, the document's Same, warrenkeep's Result and Call.
-/
import Derived.Test.YtlokihpegllddaaHI
namespace Go.Proofs.Ytlokihpegllddaa.Cl
open Go.RowKit Go.Shelf
attribute [local go_sem ↓] Go.wp_at_zero Go.wp_at_succ

/-- Alike in all fields. -/
def sameR (a b : Rr) : Bool := a.why == b.why && a.n == b.n && a.node == b.node && a.kind == b.kind && a.mode == b.mode && a.uid == b.uid && a.gid == b.gid && a.links == b.links && a.size == b.size && a.data == b.data && decide (a.names = b.names)
theorem sameR_self (a : Rr) : sameR a a = true := by simp [sameR]
theorem sameR_comm (a b : Rr) : sameR a b = sameR b a := by
  have h : ∀ (x y : Int), (x == y) = (y == x) := fun x y => by
    by_cases h : x = y
    · subst h; rfl
    · have h' : ¬ y = x := fun e => h e.symm
      rw [beq_eq_false_iff_ne.2 h, beq_eq_false_iff_ne.2 h']
  have h2 : (a.data == b.data) = (b.data == a.data) := by
    by_cases h : a.data = b.data
    · rw [h]
    · have h' : ¬ b.data = a.data := fun e => h e.symm
      rw [beq_eq_false_iff_ne.2 h, beq_eq_false_iff_ne.2 h']
  have h3 : decide (a.names = b.names) = decide (b.names = a.names) := by
    by_cases h : a.names = b.names
    · rw [h]
    · have h' : ¬ b.names = a.names := fun e => h e.symm
      simp [h, h']
  unfold sameR
  rw [h a.why, h a.n, h a.node, h a.kind, h a.mode, h a.uid, h a.gid, h a.links, h a.size, h2, h3]

set_option maxRecDepth 100000 in
set_option maxHeartbeats 4000000 in
theorem same_any (a b : Rr) (d1 m1 d2 m2 : Sl) (w : World) (hd1 : Dq w w.heap.size d1 a.data) (hm1 : Nq w w.heap.size m1 a.names) (hd2 : Dq w w.heap.size d2 b.data) (hm2 : Nq w w.heap.size m2 b.names) :
    Calls Try.prog 15 #[.agg (a.cs d1 m1), .agg (b.cs d2 m2)] w fun e w' => e = .returned (.bool (sameR a b)) ∧ Below w.heap.size w w' := by
  obtain ⟨aw, an, ad, am, as0, as1, as2, as3, as4, as5, as6⟩ := a
  obtain ⟨bw, bn, bd, bm, bs0, bs1, bs2, bs3, bs4, bs5, bs6⟩ := b
  change Calls Try.prog 15 #[.agg #[I aw, I an, .slice d1.a d1.n d1.c, .slice m1.a m1.n m1.c, I as0, I as1, I as2, I as3, I as4, I as5, I as6], .agg #[I bw, I bn, .slice d2.a d2.n d2.c, .slice m2.a m2.n m2.c, I bs0, I bs1, I bs2, I bs3, I bs4, I bs5, I bs6]] w _
  simp only at hd1 hm1 hd2 hm2
  obtain ⟨V, hV, hs, g0, g1, hB⟩ := alloc2 w (.cells #[I aw, I an, .slice d1.a d1.n d1.c, .slice m1.a m1.n m1.c, I as0, I as1, I as2, I as3, I as4, I as5, I as6] 33) (.cells #[I bw, I bn, .slice d2.a d2.n d2.c, .slice m2.a m2.n m2.c, I bs0, I bs1, I bs2, I bs3, I bs4, I bs5, I bs6] 33)
  obtain ⟨p0, p1, p2, p3, p4, p5, p6, p7, p8, p9, p10⟩ := cells11 g0
  obtain ⟨q0, q1, q2, q3, q4, q5, q6, q7, q8, q9, q10⟩ := cells11 g1
  have HB := hide hB
  have HD := hide (fun (W : World) (hW : Below V.heap.size V W) => eqB_any d1 d2 ad bd W ((hd1.below hB (Nat.le_refl _)).low.below hW (Nat.le_refl _)).low ((hd2.below hB (Nat.le_refl _)).low.below hW (Nat.le_refl _)).low)
  have HM := hide (fun (W : World) (hW : Below V.heap.size V W) => eqS_any m1 m2 am bm W ((hm1.below hB (Nat.le_refl _)).low.below hW (Nat.le_refl _)).low ((hm2.below hB (Nat.le_refl _)).low.below hW (Nat.le_refl _)).low)
  clear hd1 hm1 hd2 hm2 g0 g1 hB hs
  by_cases h : aw = bw
  · subst h
    by_cases h : an = bn
    · subst h
      by_cases h : as0 = bs0
      · subst h
        by_cases h : as1 = bs1
        · subst h
          by_cases h : as2 = bs2
          · subst h
            by_cases h : as3 = bs3
            · subst h
              by_cases h : as4 = bs4
              · subst h
                by_cases h : as5 = bs5
                · subst h
                  by_cases h : as6 = bs6
                  · subst h
                    by_cases h : ad = bd
                    · subst h
                      have e : sameR (⟨aw, an, ad, am, as0, as1, as2, as3, as4, as5, as6⟩ : Rr) (⟨aw, an, ad, bm, as0, as1, as2, as3, as4, as5, as6⟩ : Rr) = decide (am = bm) := by simp [sameR]
                      rw [e]
                      clear e
                      go_enter Try.func15, Try.ntmps15
                      go_wp2_with (first | (go_at_call 25; refine (unhide HD _ (Below.refl _ _)).mono ?_; rintro e w1 ⟨rfl, rfl⟩; rw [beq_self_eq_true]) | (go_at_call 26; refine (unhide HM _ (Below.refl _ _)).mono ?_; rintro e w1 ⟨rfl, m, rfl⟩))
                      go_ret
                      exact ⟨rfl, below_dn (unhide HB) m⟩
                    · have e : sameR (⟨aw, an, ad, am, as0, as1, as2, as3, as4, as5, as6⟩ : Rr) (⟨aw, an, bd, bm, as0, as1, as2, as3, as4, as5, as6⟩ : Rr) = false := by simp [sameR, h]
                      rw [e]
                      have e1 : (ad == bd) = false := by simp [h]
                      clear e h
                      go_enter Try.func15, Try.ntmps15
                      go_wp2_with (go_at_call 25; refine (unhide HD _ (Below.refl _ _)).mono ?_; rintro e w1 ⟨rfl, rfl⟩; rw [e1])
                      go_ret
                      exact ⟨rfl, unhide HB⟩
                  · have e : sameR (⟨aw, an, ad, am, as0, as1, as2, as3, as4, as5, as6⟩ : Rr) (⟨aw, an, bd, bm, as0, as1, as2, as3, as4, as5, bs6⟩ : Rr) = false := by simp [sameR, h]
                    rw [e]
                    have e1 : ¬ as6 = bs6 := h
                    clear e h
                    go_enter Try.func15, Try.ntmps15
                    go_wp2_with fail
                    go_ret
                    exact ⟨rfl, unhide HB⟩
                · have e : sameR (⟨aw, an, ad, am, as0, as1, as2, as3, as4, as5, as6⟩ : Rr) (⟨aw, an, bd, bm, as0, as1, as2, as3, as4, bs5, bs6⟩ : Rr) = false := by simp [sameR, h]
                  rw [e]
                  have e1 : ¬ as5 = bs5 := h
                  clear e h
                  go_enter Try.func15, Try.ntmps15
                  go_wp2_with fail
                  go_ret
                  exact ⟨rfl, unhide HB⟩
              · have e : sameR (⟨aw, an, ad, am, as0, as1, as2, as3, as4, as5, as6⟩ : Rr) (⟨aw, an, bd, bm, as0, as1, as2, as3, bs4, bs5, bs6⟩ : Rr) = false := by simp [sameR, h]
                rw [e]
                have e1 : ¬ as4 = bs4 := h
                clear e h
                go_enter Try.func15, Try.ntmps15
                go_wp2_with fail
                go_ret
                exact ⟨rfl, unhide HB⟩
            · have e : sameR (⟨aw, an, ad, am, as0, as1, as2, as3, as4, as5, as6⟩ : Rr) (⟨aw, an, bd, bm, as0, as1, as2, bs3, bs4, bs5, bs6⟩ : Rr) = false := by simp [sameR, h]
              rw [e]
              have e1 : ¬ as3 = bs3 := h
              clear e h
              go_enter Try.func15, Try.ntmps15
              go_wp2_with fail
              go_ret
              exact ⟨rfl, unhide HB⟩
          · have e : sameR (⟨aw, an, ad, am, as0, as1, as2, as3, as4, as5, as6⟩ : Rr) (⟨aw, an, bd, bm, as0, as1, bs2, bs3, bs4, bs5, bs6⟩ : Rr) = false := by simp [sameR, h]
            rw [e]
            have e1 : ¬ as2 = bs2 := h
            clear e h
            go_enter Try.func15, Try.ntmps15
            go_wp2_with fail
            go_ret
            exact ⟨rfl, unhide HB⟩
        · have e : sameR (⟨aw, an, ad, am, as0, as1, as2, as3, as4, as5, as6⟩ : Rr) (⟨aw, an, bd, bm, as0, bs1, bs2, bs3, bs4, bs5, bs6⟩ : Rr) = false := by simp [sameR, h]
          rw [e]
          have e1 : ¬ as1 = bs1 := h
          clear e h
          go_enter Try.func15, Try.ntmps15
          go_wp2_with fail
          go_ret
          exact ⟨rfl, unhide HB⟩
      · have e : sameR (⟨aw, an, ad, am, as0, as1, as2, as3, as4, as5, as6⟩ : Rr) (⟨aw, an, bd, bm, bs0, bs1, bs2, bs3, bs4, bs5, bs6⟩ : Rr) = false := by simp [sameR, h]
        rw [e]
        have e1 : ¬ as0 = bs0 := h
        clear e h
        go_enter Try.func15, Try.ntmps15
        go_wp2_with fail
        go_ret
        exact ⟨rfl, unhide HB⟩
    · have e : sameR (⟨aw, an, ad, am, as0, as1, as2, as3, as4, as5, as6⟩ : Rr) (⟨aw, bn, bd, bm, bs0, bs1, bs2, bs3, bs4, bs5, bs6⟩ : Rr) = false := by simp [sameR, h]
      rw [e]
      have e1 : (an == bn) = false := by simp [h]
      clear e h
      go_enter Try.func15, Try.ntmps15
      go_wp2_with fail
      go_ret
      exact ⟨rfl, unhide HB⟩
  · have e : sameR (⟨aw, an, ad, am, as0, as1, as2, as3, as4, as5, as6⟩ : Rr) (⟨bw, bn, bd, bm, bs0, bs1, bs2, bs3, bs4, bs5, bs6⟩ : Rr) = false := by simp [sameR, h]
    rw [e]
    have e1 : (aw == bw) = false := by simp [h]
    clear e h
    go_enter Try.func15, Try.ntmps15
    go_wp2_with fail
    go_ret
    exact ⟨rfl, unhide HB⟩

set_option maxRecDepth 100000 in
set_option maxHeartbeats 4000000 in
theorem rsame_any (a b : Rr) (d1 m1 d2 m2 : Sl) (w : World) (hd1 : Dq w w.heap.size d1 a.data) (hm1 : Nq w w.heap.size m1 a.names) (hd2 : Dq w w.heap.size d2 b.data) (hm2 : Nq w w.heap.size m2 b.names) :
    Calls Try.prog 16 #[.agg (a.cs d1 m1), .agg (b.cs d2 m2)] w fun e w' => e = .returned (.bool (sameR a b)) ∧ Below w.heap.size w w' := by
  obtain ⟨aw, an, ad, am, as0, as1, as2, as3, as4, as5, as6⟩ := a
  obtain ⟨bw, bn, bd, bm, bs0, bs1, bs2, bs3, bs4, bs5, bs6⟩ := b
  change Calls Try.prog 16 #[.agg #[I aw, I an, .slice d1.a d1.n d1.c, .slice m1.a m1.n m1.c, I as0, I as1, I as2, I as3, I as4, I as5, I as6], .agg #[I bw, I bn, .slice d2.a d2.n d2.c, .slice m2.a m2.n m2.c, I bs0, I bs1, I bs2, I bs3, I bs4, I bs5, I bs6]] w _
  simp only at hd1 hm1 hd2 hm2
  obtain ⟨V, hV, hs, g0, g1, hB⟩ := alloc2 w (.cells #[I aw, I an, .slice d1.a d1.n d1.c, .slice m1.a m1.n m1.c, I as0, I as1, I as2, I as3, I as4, I as5, I as6] 33) (.cells #[I bw, I bn, .slice d2.a d2.n d2.c, .slice m2.a m2.n m2.c, I bs0, I bs1, I bs2, I bs3, I bs4, I bs5, I bs6] 33)
  obtain ⟨p0, p1, p2, p3, p4, p5, p6, p7, p8, p9, p10⟩ := cells11 g0
  obtain ⟨q0, q1, q2, q3, q4, q5, q6, q7, q8, q9, q10⟩ := cells11 g1
  have k1 := (hd1.below hB (Nat.le_refl _)).conv
  have k2 := (hd2.below hB (Nat.le_refl _)).conv
  have k3 := bs_list ad
  have k4 := bs_list bd
  have HB := hide hB
  have M1 := hide (hm1.below hB (Nat.le_refl _))
  have M2 := hide (hm2.below hB (Nat.le_refl _))
  have n1 := hm1.1
  have n2 := hm2.1
  have hb : m1.n ≤ 9223372036854775807 := Nat.le_trans (Nat.le_trans hm1.2.1 hm1.2.2.1) (by decide)
  clear hd1 hm1 hd2 hm2 g0 g1 hB hs
  by_cases h : aw = bw
  · subst h
    by_cases h : an = bn
    · subst h
      by_cases h : ad = bd
      · subst h
        by_cases h : am.length = bm.length
        · have f1 : ((m1.n : Int) != (m2.n : Int)) = false := by simp; omega
          have hn12 : m1.n = m2.n := by omega
          have HN := hide (⟨n1, n2, h, hn12⟩ : _ ∧ _ ∧ _ ∧ _)
          clear h hn12
          by_cases h : as0 = bs0
          · subst h
            by_cases h : as1 = bs1
            · subst h
              by_cases h : as2 = bs2
              · subst h
                by_cases h : as3 = bs3
                · subst h
                  by_cases h : as4 = bs4
                  · subst h
                    by_cases h : as5 = bs5
                    · subst h
                      by_cases h : as6 = bs6
                      · subst h
                        have e : sameR (⟨aw, an, ad, am, as0, as1, as2, as3, as4, as5, as6⟩ : Rr) (⟨aw, an, ad, bm, as0, as1, as2, as3, as4, as5, as6⟩ : Rr) = decide (am = bm) := by simp [sameR]
                        rw [e]
                        clear e n1 n2
                        obtain ⟨a1, l1, c1⟩ := m1
                        obtain ⟨a2, l2, c2⟩ := m2
                        simp only at f1 hb ⊢
                        go_enter Try.func16, Try.ntmps16
                        go_wp2_with fail
                        go_loopw [5] (fun i wr => ∃ k m : Nat, k ≤ l1 ∧ i = .int .i64 k ∧ wr = V.drewN m ∧ ∀ j, j < k → am[j]? = bm[j]?) (fun i _ => l1 - (intOf i).toNat)
                        case atStart => exact ⟨0, 0, Nat.zero_le _, rfl, rfl, fun j h => by omega⟩
                        case round =>
                          obtain ⟨k, m, hk, rfl, rfl, hall⟩ := hrel
                          have HA := hide hall
                          clear hall
                          have p3m : (V.drewN m).cell? ⟨w.heap.size, 3, none⟩ = some (.slice a1 l1 c1) := p3
                          have p3d : (V.drewN m).drew.cell? ⟨w.heap.size, 3, none⟩ = some (.slice a1 l1 c1) := p3
                          have q3m : (V.drewN m).cell? ⟨w.heap.size + 1, 3, none⟩ = some (.slice a2 l2 c2) := q3
                          have q3d : (V.drewN m).drew.cell? ⟨w.heap.size + 1, 3, none⟩ = some (.slice a2 l2 c2) := q3
                          by_cases hkn : k < l1
                          · have j1 : (k : Int) < (l1 : Int) := by omega
                            have j0 : (0 : Int) ≤ (k : Int) := by omega
                            have j2 : (k : Int) < (l2 : Int) := by have h : l1 = l2 := (unhide HN).2.2.2; omega
                            obtain ⟨x, hx⟩ : ∃ x, am[k]? = some x := ⟨_, List.getElem?_eq_getElem (by have h : l1 = _ := (unhide HN).1; omega)⟩
                            obtain ⟨y, hy⟩ : ∃ y, bm[k]? = some y := ⟨_, List.getElem?_eq_getElem (by have h : l2 = _ := (unhide HN).2.1; omega)⟩
                            obtain ⟨g1, o1, e1, -, -, x1⟩ := (unhide M1).2.2.2 k x hx
                            obtain ⟨g2, o2, e2, -, -, x2⟩ := (unhide M2).2.2.2 k y hy
                            simp only at e1 e2
                            subst e1 e2
                            have z1 : (V.drewN m).cell? ⟨g1, o1 + k, none⟩ = some (S x) := x1
                            have z2 : (V.drewN m).cell? ⟨g2, o2 + k, none⟩ = some (S y) := x2
                            have r1 : (V.drewN m).drew.cell? ⟨g1, o1 + k, none⟩ = some (S x) := x1
                            have r2 : (V.drewN m).drew.cell? ⟨g2, o2 + k, none⟩ = some (S y) := x2
                            have bx := bs_list x
                            have by_ := bs_list y
                            by_cases hxy : x = y
                            · have t1 : (x != y) = false := by simp [hxy]
                              have t2 : (x == y) = true := by simp [hxy]
                              have HX := hide (show am[k]? = bm[k]? by rw [hx, hy, hxy])
                              clear hx hy hxy
                              go_wp2_with fail
                              go_region
                              all_goals go_wp2_with fail
                              all_goals exact ⟨⟨k + 1, m + 1, by omega, by go_num, rfl, fun j hj => by
                                rcases Nat.lt_or_ge j k with h | h
                                · exact unhide HA j h
                                · obtain rfl : j = k := by omega
                                  exact unhide HX⟩, by simp [intOf]; omega⟩
                            · have t1 : (x != y) = true := by simp [hxy]
                              have t2 : (x == y) = false := by simp [hxy]
                              have HX := hide (show am ≠ bm by rintro rfl; rw [hx] at hy; exact hxy (Option.some.inj hy))
                              clear hx hy hxy
                              go_wp2_with fail
                              go_region
                              all_goals go_wp2_with fail
                              all_goals go_ret
                              all_goals exact ⟨by simp [unhide HX], below_dn (unhide HB) (m + 1)⟩
                          · obtain rfl : k = l1 := by omega
                            have kk : ¬ (k : Int) < (k : Int) := by omega
                            have HX := hide (show am = bm from List.ext_getElem? fun j => by
                              rcases Nat.lt_or_ge j k with h | h
                              · exact unhide HA j h
                              · have h1 : k = _ := (unhide HN).1
                                have h2 := (unhide HN).2.2.1
                                rw [List.getElem?_eq_none (by omega), List.getElem?_eq_none (by omega)])
                            go_wp2_with fail
                            go_ret
                            exact ⟨by simp [unhide HX], below_dn (unhide HB) m⟩
                      · have e : sameR (⟨aw, an, ad, am, as0, as1, as2, as3, as4, as5, as6⟩ : Rr) (⟨aw, an, ad, bm, as0, as1, as2, as3, as4, as5, bs6⟩ : Rr) = false := by simp [sameR, h]
                        rw [e]
                        have e1 : ¬ as6 = bs6 := h
                        clear e h n1 n2
                        go_enter Try.func16, Try.ntmps16
                        go_wp2_with fail
                        go_ret
                        exact ⟨rfl, unhide HB⟩
                    · have e : sameR (⟨aw, an, ad, am, as0, as1, as2, as3, as4, as5, as6⟩ : Rr) (⟨aw, an, ad, bm, as0, as1, as2, as3, as4, bs5, bs6⟩ : Rr) = false := by simp [sameR, h]
                      rw [e]
                      have e1 : ¬ as5 = bs5 := h
                      clear e h n1 n2
                      go_enter Try.func16, Try.ntmps16
                      go_wp2_with fail
                      go_ret
                      exact ⟨rfl, unhide HB⟩
                  · have e : sameR (⟨aw, an, ad, am, as0, as1, as2, as3, as4, as5, as6⟩ : Rr) (⟨aw, an, ad, bm, as0, as1, as2, as3, bs4, bs5, bs6⟩ : Rr) = false := by simp [sameR, h]
                    rw [e]
                    have e1 : ¬ as4 = bs4 := h
                    clear e h n1 n2
                    go_enter Try.func16, Try.ntmps16
                    go_wp2_with fail
                    go_ret
                    exact ⟨rfl, unhide HB⟩
                · have e : sameR (⟨aw, an, ad, am, as0, as1, as2, as3, as4, as5, as6⟩ : Rr) (⟨aw, an, ad, bm, as0, as1, as2, bs3, bs4, bs5, bs6⟩ : Rr) = false := by simp [sameR, h]
                  rw [e]
                  have e1 : ¬ as3 = bs3 := h
                  clear e h n1 n2
                  go_enter Try.func16, Try.ntmps16
                  go_wp2_with fail
                  go_ret
                  exact ⟨rfl, unhide HB⟩
              · have e : sameR (⟨aw, an, ad, am, as0, as1, as2, as3, as4, as5, as6⟩ : Rr) (⟨aw, an, ad, bm, as0, as1, bs2, bs3, bs4, bs5, bs6⟩ : Rr) = false := by simp [sameR, h]
                rw [e]
                have e1 : ¬ as2 = bs2 := h
                clear e h n1 n2
                go_enter Try.func16, Try.ntmps16
                go_wp2_with fail
                go_ret
                exact ⟨rfl, unhide HB⟩
            · have e : sameR (⟨aw, an, ad, am, as0, as1, as2, as3, as4, as5, as6⟩ : Rr) (⟨aw, an, ad, bm, as0, bs1, bs2, bs3, bs4, bs5, bs6⟩ : Rr) = false := by simp [sameR, h]
              rw [e]
              have e1 : ¬ as1 = bs1 := h
              clear e h n1 n2
              go_enter Try.func16, Try.ntmps16
              go_wp2_with fail
              go_ret
              exact ⟨rfl, unhide HB⟩
          · have e : sameR (⟨aw, an, ad, am, as0, as1, as2, as3, as4, as5, as6⟩ : Rr) (⟨aw, an, ad, bm, bs0, bs1, bs2, bs3, bs4, bs5, bs6⟩ : Rr) = false := by simp [sameR, h]
            rw [e]
            have e1 : ¬ as0 = bs0 := h
            clear e h n1 n2
            go_enter Try.func16, Try.ntmps16
            go_wp2_with fail
            go_ret
            exact ⟨rfl, unhide HB⟩
        · have e : sameR (⟨aw, an, ad, am, as0, as1, as2, as3, as4, as5, as6⟩ : Rr) (⟨aw, an, ad, bm, bs0, bs1, bs2, bs3, bs4, bs5, bs6⟩ : Rr) = false := by have h' : am ≠ bm := (fun e => h (by rw [e])); simp [sameR, h']
          rw [e]
          have e1 : ((m1.n : Int) != (m2.n : Int)) = true := by simp; omega
          clear e h n1 n2
          go_enter Try.func16, Try.ntmps16
          go_wp2_with fail
          go_ret
          exact ⟨rfl, unhide HB⟩
      · have e : sameR (⟨aw, an, ad, am, as0, as1, as2, as3, as4, as5, as6⟩ : Rr) (⟨aw, an, bd, bm, bs0, bs1, bs2, bs3, bs4, bs5, bs6⟩ : Rr) = false := by simp [sameR, h]
        rw [e]
        have e1 : (ad == bd) = false := by simp [h]
        have e2 : (ad != bd) = true := by simp [h]
        clear e h n1 n2
        go_enter Try.func16, Try.ntmps16
        go_wp2_with fail
        go_ret
        exact ⟨rfl, unhide HB⟩
    · have e : sameR (⟨aw, an, ad, am, as0, as1, as2, as3, as4, as5, as6⟩ : Rr) (⟨aw, bn, bd, bm, bs0, bs1, bs2, bs3, bs4, bs5, bs6⟩ : Rr) = false := by simp [sameR, h]
      rw [e]
      have e1 : (an != bn) = true := by simp [h]
      clear e h n1 n2
      go_enter Try.func16, Try.ntmps16
      go_wp2_with fail
      go_ret
      exact ⟨rfl, unhide HB⟩
  · have e : sameR (⟨aw, an, ad, am, as0, as1, as2, as3, as4, as5, as6⟩ : Rr) (⟨bw, bn, bd, bm, bs0, bs1, bs2, bs3, bs4, bs5, bs6⟩ : Rr) = false := by simp [sameR, h]
    rw [e]
    have e1 : (aw != bw) = true := by simp [h]
    clear e h n1 n2
    go_enter Try.func16, Try.ntmps16
    go_wp2_with fail
    go_ret
    exact ⟨rfl, unhide HB⟩

set_option maxRecDepth 100000 in
set_option maxHeartbeats 2000000 in
theorem ksame_any (a : Rr) (d1 m1 d2 m2 : Sl) (w : World) (hd1 : Dq w w.heap.size d1 a.data) (hm1 : Nq w w.heap.size m1 a.names) (hd2 : Dq w w.heap.size d2 a.data) (hm2 : Nq w w.heap.size m2 a.names) :
    Calls Try.prog 18 #[.agg (a.cs d1 m1), .agg (a.cs d2 m2)] w fun e w' => e = .returned (.bool true) ∧ Below w.heap.size w w' := by
  obtain ⟨aw, an, ad, am, as0, as1, as2, as3, as4, as5, as6⟩ := a
  change Calls Try.prog 18 #[.agg #[I aw, I an, .slice d1.a d1.n d1.c, .slice m1.a m1.n m1.c, I as0, I as1, I as2, I as3, I as4, I as5, I as6], .agg #[I aw, I an, .slice d2.a d2.n d2.c, .slice m2.a m2.n m2.c, I as0, I as1, I as2, I as3, I as4, I as5, I as6]] w _
  simp only at hd1 hm1 hd2 hm2
  obtain ⟨V, hV, hs, g0, g1, hB⟩ := alloc2 w (.cells #[I aw, I an, .slice d1.a d1.n d1.c, .slice m1.a m1.n m1.c, I as0, I as1, I as2, I as3, I as4, I as5, I as6] 33) (.cells #[I aw, I an, .slice d2.a d2.n d2.c, .slice m2.a m2.n m2.c, I as0, I as1, I as2, I as3, I as4, I as5, I as6] 33)
  obtain ⟨p0, p1, p2, p3, p4, p5, p6, p7, p8, p9, p10⟩ := cells11 g0
  obtain ⟨q0, q1, q2, q3, q4, q5, q6, q7, q8, q9, q10⟩ := cells11 g1
  have k1 := (hd1.below hB (Nat.le_refl _)).conv
  have k2 := (hd2.below hB (Nat.le_refl _)).conv
  have k3 := bs_list ad
  have HB := hide hB
  have HM := hide (fun (W : World) (hW : Below V.heap.size V W) => texts_any m1 m2 am am W ((hm1.below hB (Nat.le_refl _)).low.below hW (Nat.le_refl _)).low ((hm2.below hB (Nat.le_refl _)).low.below hW (Nat.le_refl _)).low)
  have e3 : decide (am = am) = true := by simp
  clear hd1 hm1 hd2 hm2 g0 g1 hB hs
  go_enter Try.func18, Try.ntmps18
  go_wp2_with (go_at_call 27; refine (unhide HM _ (Below.refl _ _)).mono ?_; rintro e w1 ⟨rfl, m, rfl⟩; rw [e3])
  go_ret
  exact ⟨rfl, below_dn (unhide HB) m⟩
set_option maxRecDepth 100000 in
set_option maxHeartbeats 2000000 in
theorem kcall_any (c : Cc) (d1 d2 : Sl) (w : World) (h1 : Dq w w.heap.size d1 c.data) (h2 : Dq w w.heap.size d2 c.data) :
    Calls Try.prog 24 #[.agg (c.cs d1), .agg (c.cs d2)] w fun e w' => e = .returned (.bool true) ∧ Below w.heap.size w w' := by
  obtain ⟨V, hV, hs, g0, g1, hB⟩ := alloc2 w (.cells (c.cs d1) 28) (.cells (c.cs d2) 28)
  obtain ⟨p0, p1, p2, p3, p4, p5, p6, p7, p8⟩ := cells9 g0
  obtain ⟨q0, q1, q2, q3, q4, q5, q6, q7, q8⟩ := cells9 g1
  have k1 := (h1.below hB (Nat.le_refl _)).conv
  have k2 := (h2.below hB (Nat.le_refl _)).conv
  have k3 := bs_list c.path
  have k4 := bs_list c.dst
  have k5 := bs_list c.data
  have HB := hide hB
  clear h1 h2 g0 g1 hB hs
  change Calls Try.prog 24 #[.agg #[I c.op, S c.path, S c.dst, I c.fd, I c.fl, I c.mo, I c.n, I c.m, .slice d1.a d1.n d1.c], .agg #[I c.op, S c.path, S c.dst, I c.fd, I c.fl, I c.mo, I c.n, I c.m, .slice d2.a d2.n d2.c]] w _
  go_enter Try.func24, Try.ntmps24
  go_wp2_with fail
  go_ret
  exact ⟨rfl, unhide HB⟩

end Go.Proofs.Ytlokihpegllddaa.Cl
