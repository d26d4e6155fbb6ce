/-
  The document's pool: the contract of Write.
-/
import Derived.Test.YtaogokgklkdmpaaRefG
import Derived.Test.YtaogokgklkdmpaaRefE
namespace Go.Proofs.Ytaogokgklkdmpaa
open Go.RowKit Go.Maps

theorem lacks_cnt {x : F} {a n B L : Nat} (h1 : B = a / 16) (h2 : L = (a + n - 1) / 16) (hn : 0 < n) (hL : L < 64) : cnt (L + 1) (fun j => decide (B ≤ j) && !x.has j) = x.lacks a n := by
  rw [F.lacks]
  have hz : ∀ d, L + 1 + d ≤ 64 → cnt (L + 1 + d) (fun k => decide (a / 16 ≤ k ∧ 16 * k < a + n) && !x.has k) = cnt (L + 1) (fun j => decide (B ≤ j) && !x.has j) := by
    intro d
    induction d with
    | zero =>
      intro _
      refine cnt_congr fun k hk => ?_
      have : (a / 16 ≤ k ∧ 16 * k < a + n) ↔ B ≤ k := by omega
      simp [this]
    | succ d ih =>
      intro hd
      rw [← Nat.add_assoc, cnt_succ, ih (by omega)]
      have : ¬ (a / 16 ≤ L + 1 + d ∧ 16 * (L + 1 + d) < a + n) := by omega
      simp [this]
  have := hz (64 - (L + 1)) (by omega)
  rw [show L + 1 + (64 - (L + 1)) = 64 by omega] at this
  exact this.symm
theorem lay_step (f : Nat → Int) (a j : Nat) (g : Nat → Int) (i : Nat) : lay f a (j + 1) g i = if i = a + j then g j else lay f a j g i := by
  simp only [lay]
  by_cases e : i = a + j
  · rw [if_pos e, if_pos (by omega)]
    congr 1
    omega
  · rw [if_neg e]
    by_cases h : a ≤ i ∧ i < a + j
    · rw [if_pos h, if_pos (by omega)]
    · rw [if_neg h, if_neg (by omega)]
theorem layH_step (h : Nat → Bool) (a j : Nat) (i : Nat) : layH h a (j + 1) i = if i = (a + j) / 16 then true else layH h a j i := by
  simp only [layH]
  by_cases e : i = (a + j) / 16
  · rw [if_pos e, decide_eq_true (by omega), Bool.or_true]
  · rw [if_neg e]
    congr 1
    rw [decide_eq_decide]
    omega
set_option maxHeartbeats 4000000 in
theorem rwrite_any {base lim n : Nat} {W : World} {q : Nat} {s : S} (h : Rq base lim n W q s) (ht : s.left + total s.fs = n) (hn : n ≤ 256) (f a : Int) (hf : (kl f).wf = true) (hl : s.fs.length ≤ 1000000) {u : World} (ad : Option Addr) (m cap : Nat) (g : Nat → Int) (hin : In u ad m cap g) (hu : base = u.heap.size) (B : Below base u W) (hm : m ≤ 1100) :
    Calls Try.prog 23 #[P0 q, I f, I a, .slice ad m cap] W fun e w' => e = .returned (I (writeE s f a m)) ∧ Rq base w'.heap.size n w' q (writeS s f a m g) ∧ RFr base lim W w' := by
  have h' := h
  obtain ⟨Lv, fb, bv, h⟩ := h
  have hr := hide (h'.mono h.ll.2 (Nat.le_refl _))
  have hb := hide (RFr.of_below (base := base) (lim := lim) (Below.refl _ W) (by have := h.ll; omega))
  have HQ := hide h'
  clear h'
  replace hin := hide hin
  replace B := hide B
  replace hu := hide hu
  cases e : s.get f with
  | none =>
    have he : ofV s fb f = .pointer none := by simp only [ofV, e]
    simp only [writeE, writeS, e]
    go_enter Try.func23, Try.ntmps23
    go_wp2_with fail
    refine (of_any h f hf hl).mono ?_
    rintro e w1 ⟨rfl, rfl⟩
    rw [he]
    go_wp2_with fail
    go_ret
    exact ⟨rfl, unhide hr, unhide hb⟩
  | some x =>
    have he : ofV s fb f = P0 (fb (f.toNat - 1)) := by simp only [ofV, e]
    simp only [writeE, writeS, e]
    by_cases a0 : a < 0
    · simp only [if_pos a0]
      go_enter Try.func23, Try.ntmps23
      go_wp2_with fail
      refine (of_any h f hf hl).mono ?_
      rintro e w1 ⟨rfl, rfl⟩
      rw [he]
      go_wp2_with fail
      go_ret
      exact ⟨rfl, unhide hr, unhide hb⟩
    · by_cases m0 : m = 0
      · simp only [if_neg a0, if_pos m0]
        subst m0
        go_enter Try.func23, Try.ntmps23
        go_wp2_with fail
        refine (of_any h f hf hl).mono ?_
        rintro e w1 ⟨rfl, rfl⟩
        rw [he]
        go_wp2_with fail
        go_ret
        exact ⟨rfl, unhide hr, unhide hb⟩
      · have m1 : ((m : Int) == 0) = false := by simp; omega
        by_cases am : 1024 < a + (m : Int)
        · simp only [if_neg a0, if_neg m0, if_pos am]
          by_cases a1 : 1024 < a
          · go_enter Try.func23, Try.ntmps23
            go_wp2_with fail
            refine (of_any h f hf hl).mono ?_
            rintro e w1 ⟨rfl, rfl⟩
            rw [he]
            go_wp2_with fail
            go_ret
            exact ⟨rfl, unhide hr, unhide hb⟩
          · have a2 : 1024 - a < (m : Int) := by omega
            go_enter Try.func23, Try.ntmps23
            go_wp2_with fail
            refine (of_any h f hf hl).mono ?_
            rintro e w1 ⟨rfl, rfl⟩
            rw [he]
            go_wp2_with fail
            go_ret
            exact ⟨rfl, unhide hr, unhide hb⟩
        · simp only [if_neg a0, if_neg m0, if_neg am]
          obtain ⟨A, rfl⟩ := Int.eq_ofNat_of_zero_le (show 0 ≤ a by omega)
          simp only [Int.toNat_natCast]
          suffices key : ∀ (ee : Int) (ss : S), (s.left < x.lacks A m → ee = 43 ∧ ss = s) → (¬ s.left < x.lacks A m → ee = 0 ∧ ss = s.put f (some (x.write A m g)) (s.left - x.lacks A m)) → Calls Try.prog 23 #[P0 q, I f, I (A : Int), .slice ad m cap] W fun e w' => e = .returned (I ee) ∧ Rq base w'.heap.size n w' q ss ∧ RFr base lim W w' by
            exact key _ _ (fun h => ⟨if_pos h, if_pos h⟩) (fun h => ⟨if_neg h, if_neg h⟩)
          intro ee ss hs1 hs2
          obtain ⟨k1, k2⟩ := S.get_at e
          obtain ⟨k, hk⟩ : ∃ k, k = f.toNat - 1 := ⟨_, rfl⟩
          rw [← hk] at k2 he
          have hx := h.hx k x k2
          have FIN : ∀ wr v, Tw base W wr (fb k) (bv k) v (x.write A m g).size (x.write A m g).byte (x.write A m g).has → Rq base wr.heap.size n wr q (s.put f (some (x.write A m g)) (s.left - x.lacks A m)) ∧ RFr base lim W wr := fun wr v T => T.done h k2 (F.write_ok hx.ok g (by omega)) (by simp only [S.put]; rw [← hk])
          have T0 := hide hx.tw
          have hcb : base ≤ fb k := hx.lc.1
          have hbb : ∀ b, (bv k).ownBlock = some b → base ≤ b := fun b hb => (own_blk hx.hb hb).1
          obtain ⟨c, hc⟩ : ∃ c, c = fb k := ⟨_, rfl⟩
          obtain ⟨bw, hbw⟩ : ∃ bw, bw = bv k := ⟨_, rfl⟩
          obtain ⟨lk, hlk⟩ : ∃ l, l = x.lacks A m := ⟨_, rfl⟩
          obtain ⟨L2, hL2⟩ : ∃ l, l = s.left - lk := ⟨_, rfl⟩
          rw [← hlk] at FIN hs1 hs2
          rw [← hc, ← hbw] at T0 FIN
          rw [← hbw] at hbb
          rw [← hL2] at FIN hs2
          replace hs1 := hide hs1
          replace hs2 := hide hs2
          rw [← hc] at he hcb
          have hsz : x.size ≤ 1024 := hx.ok.most
          have hbeh := hide hx.ok.beh
          have hbs : base ≤ W.heap.size := by have := h.ll; omega
          have am1 : A + m ≤ 1024 := by omega
          have am2 : (A : Int) + (m : Int) ≤ 1024 := by omega
          have am3 : (1 : Int) ≤ (m : Int) := by omega
          have am4 : (A : Int) ≤ 1024 := by omega
          have am5 : ¬ 1024 - (A : Int) < (m : Int) := by omega
          obtain ⟨B0, hB0⟩ : ∃ b, b = A / 16 := ⟨_, rfl⟩
          obtain ⟨L0, hL0⟩ : ∃ b, b = (A + m - 1) / 16 := ⟨_, rfl⟩
          have hBL : B0 ≤ L0 := by omega
          have hL64 : L0 < 64 := by omega
          have hcn := hide (lacks_cnt (x := x) hB0 hL0 (by omega) hL64)
          rw [← hlk] at hcn
          obtain ⟨lf, hlf⟩ : ∃ l, l = s.left := ⟨_, rfl⟩
          have hlf2 : lf ≤ 256 := by omega
          obtain ⟨i0, hi, hz0, hzz1, hzz2⟩ := info_parts info5
          obtain ⟨_, ch, _⟩ := hx.tw.cells
          rw [← hc] at ch
          replace ch := hide ch
          replace FIN := hide FIN
          replace hlf := hide hlf
          replace hbb := hide hbb
          have HB0 := hide hB0
          have HL0 := hide hL0
          have H := hide h
          have HE := hide he
          replace ht := hide ht
          clear h he hx hc hbw hL2 k1 k2 hk e a0 am hlk hB0 hL0
          go_enter Try.func23, Try.ntmps23
          go_wp2_with fail
          refine (of_any (unhide H) f hf hl).mono ?_
          rintro e w1 ⟨rfl, rfl⟩
          rw [unhide HE]
          go_wp2_with fail
          go_loopw [10, 11] (fun v i wr => ∃ (k N : Nat), B0 ≤ k ∧ k ≤ L0 + 1 ∧ i = I (k : Int) ∧ v = I (N : Int) ∧ N ≤ k ∧ Hid (N = cnt k (fun j => decide (B0 ≤ j) && !x.has j)) ∧ wr = w1) (fun _ i _ => L0 + 1 - (intOf i).toNat)
          case atStart =>
            refine ⟨B0, 0, by omega, by omega, congrArg I ?_, rfl, by omega, hide ?_, rfl⟩
            · have := unhide HB0
              omega
            · rw [cnt_none fun k hk => by simp; omega]
          case round =>
            obtain ⟨k, N, hk0, hk1, rfl, rfl, hNk, hN, rfl⟩ := hrel
            by_cases hkL : k ≤ L0
            · have g1 : (k : Int) ≤ ((A : Int) + (m : Int) - 1) / 16 := by have := unhide HL0; omega
              have g0 : (0 : Int) ≤ (k : Int) := by omega
              have g2 : (k : Int) < 64 := by omega
              have d0 := unhide ch k (by omega)
              cases hxk : x.has k with
              | true =>
                rw [hxk] at d0
                go_wp2_with fail
                refine ⟨⟨k + 1, N, by omega, by omega, rfl, rfl, by omega, hide ?_, trivial⟩, by simp [intOf]; omega⟩
                rw [cnt_succ, hxk, unhide hN]
                simp
              | false =>
                rw [hxk] at d0
                go_wp2_with fail
                refine ⟨⟨k + 1, N + 1, by omega, by omega, rfl, rfl, by omega, hide ?_, trivial⟩, by simp [intOf]; omega⟩
                rw [cnt_succ, hxk, unhide hN]
                simp [hk0]
            · have g1 : ¬ (k : Int) ≤ ((A : Int) + (m : Int) - 1) / 16 := by have := unhide HL0; omega
              obtain rfl : k = L0 + 1 := by omega
              have hNl : N = lk := (unhide hN).trans (unhide hcn)
              subst hNl
              have hN65 : (N : Int) ≤ 65 := by omega
              go_wp2_with fail
              refine (rleft_any (unhide HQ) (unhide ht) hn hl).mono ?_
              rintro e w2 ⟨rfl, rfl⟩
              rw [← unhide hlf]
              have hlf3 : (lf : Int) ≤ 256 := by omega
              by_cases hN2 : lf < N
              · have g3 : (lf : Int) < (N : Int) := by omega
                obtain ⟨rfl, rfl⟩ := unhide hs1 (by rw [← unhide hlf]; exact hN2)
                go_wp2_with fail
                go_ret
                exact ⟨rfl, unhide hr, unhide hb⟩
              · have g3 : ¬ (lf : Int) < (N : Int) := by omega
                obtain ⟨rfl, rfl⟩ := unhide hs2 (by rw [← unhide hlf]; exact hN2)
                clear hr hb
                go_wp2_with fail
                obtain ⟨M, hM⟩ : ∃ M : Nat, M = max x.size (A + m) := ⟨_, rfl⟩
                have hM1 : x.size ≤ M := by omega
                have hM2 : A + m ≤ M := by omega
                have hM3 : M ≤ 1024 := by omega
                replace hM := hide hM
                go_loopw [] (fun wr => ∃ (v : Value) (z : Nat), x.size ≤ z ∧ z ≤ M ∧ Hid (Tw base w2 wr c bw v z x.byte x.has)) (fun wr => A + m - lenAt wr c)
                case atStart => exact ⟨bw, x.size, by omega, hM1, T0⟩
                case round =>
                  obtain ⟨v, z, hz1, hz2, T⟩ := hrel
                  obtain ⟨va, vcap, hv, hmc⟩ := own_val (unhide T).hb
                  subst hv
                  obtain ⟨d0, _, df⟩ := (unhide T).cells
                  by_cases hmZ : z < A + m
                  · have q1 : (z : Int) < (A : Int) + (m : Int) := by omega
                    have HO := hide ((unhide T).hb.alloc (.cells #[U 0] 5))
                    go_wp2_with (first | (at_builtin; refine wpList_append_own_at _ rfl _ _ 28 rfl base 5 i0 (U 0) 1 1 Try.underlying28 hi hz0 hzz1 hzz2 rfl (by decide) (.slice va z vcap) z _ rfl (unhide HO) ⟨wr.heap.size, 0, none⟩ 1 1 [U 0] rfl rfl (cell_one_new _ _ _) ?_ (by unfold maxLen; omega) (by omega) ?_ ?_) | fail)
                    · intro u hu
                      simp at hu
                      subst hu
                      rfl
                    · have := (unhide T).fr.size
                      simp
                      omega
                    · intro v' w3 hO2 hG _ hblk
                      obtain ⟨oa, ocap, hv, _⟩ := own_val hO2
                      subst hv
                      have hcw : w3.heap[c]? = wr.heap[c]? := by
                        rw [hG.block c (by have := lt_of_heap (unhide T).hc; simp; omega) (fun e => (unhide T).ne e.symm rfl), Below.heap_alloc _ _ _ (lt_of_heap (unhide T).hc)]
                      have df2 := frozen_of (hcw.trans (unhide T).hc)
                      have dc2 : w3.cell? ⟨c, 0, none⟩ = some (.slice va z vcap) := (cell_same hcw 0).trans d0
                      have T2 := hide ((unhide T).push (unhide hbeh z hz1) hO2 hG hblk)
                      clear hcw hO2 hG hblk
                      go_wp2_with fail
                      refine ⟨⟨_, z + 1, by omega, by omega, T2⟩, ?_⟩
                      rw [(unhide T2).len, (unhide T).len]
                      omega
                  · have q1 : ¬ (z : Int) < (A : Int) + (m : Int) := by omega
                    obtain rfl : z = M := by have := unhide hM; omega
                    have z1024 : (z : Int) ≤ 1024 := by omega
                    obtain ⟨gg, hgg⟩ : ∃ gg, va = some ⟨gg, 0, none⟩ := by
                      obtain ⟨gg, cc, e1, _⟩ := own_cell (unhide T).hb (j := 0) (by omega)
                      cases e1
                      exact ⟨gg, rfl⟩
                    subst hgg
                    go_wp2_with fail
                    go_loopw [12] (fun i wt => ∃ j : Nat, j ≤ m ∧ i = I (j : Int) ∧ Hid (Tw base w2 wt c bw (.slice (some ⟨gg, 0, none⟩) z vcap) z (lay x.byte A j g) (layH x.has A j))) (fun i _ => m - (intOf i).toNat)
                    case atStart =>
                      refine ⟨0, by omega, rfl, ?_⟩
                      rw [lay_zero, layH_zero]
                      exact T
                    case round =>
                      obtain ⟨j, hj, rfl, T4⟩ := hrel
                      by_cases hjm : j < m
                      · have B4 : Below base u wr := (unhide B).trans ((unhide T4).fr.base hbs fun b hb => by
                          simp at hb
                          rcases hb with rfl | hb
                          · exact hcb
                          · exact unhide hbb b hb)
                        obtain ⟨sb, so, rfl, d1⟩ := ((unhide hin).base (unhide hu) B4).at hjm
                        clear B4
                        obtain ⟨d4, _, df4⟩ := (unhide T4).cells
                        obtain ⟨_, _, e1, _, _, df5⟩ := own_cell (unhide T4).hb (j := 0) (by omega)
                        cases e1
                        obtain ⟨Y, hY⟩ : ∃ Y, Y = lay x.byte A j g (A + j) := ⟨_, rfl⟩
                        have d5 : wr.cell? ⟨gg, A + j, none⟩ = some (U Y) := by
                          have := row_bs (unhide T4).hb (A + j) (by omega)
                          rw [Nat.zero_add] at this
                          simpa [hY] using this
                        clear hY
                        obtain ⟨y, hy⟩ : ∃ y, y = g j := ⟨_, rfl⟩
                        rw [← hy] at d1
                        have T5 := hide (((unhide T4).put (j := A + j) (y := y) (byte' := lay x.byte A (j + 1) g) (fun i _ => by rw [lay_step, hy])).dn)
                        obtain ⟨Q, hQ⟩ : ∃ Q, Q = (A + j) / 16 := ⟨_, rfl⟩
                        have hQ2 : Q < 64 := by omega
                        have T6 := hide ((unhide T5).flag (k := Q) hQ2 true (has' := layH x.has A (j + 1)) (fun i _ => by rw [layH_step, hQ]))
                        obtain ⟨d6, dh6, df6⟩ := (unhide T5).cells
                        have d7 := dh6 Q hQ2
                        have hQ3 : ((A : Int) + (j : Int)) / 16 = (Q : Int) := by omega
                        replace hQ := hide hQ
                        replace hy := hide hy
                        have j1 : (j : Int) < (m : Int) := by omega
                        have j0 : (0 : Int) ≤ (j : Int) := by omega
                        have j2 : (A : Int) + (j : Int) < (z : Int) := by omega
                        have j3 : (0 : Int) ≤ (A : Int) + (j : Int) := by omega
                        have j4 : (A : Int) + (j : Int) ≤ 1024 := by omega
                        clear dh6 d0 df
                        go_wp2_with fail
                        go_region
                        go_wp2_with fail
                        refine ⟨⟨j + 1, by omega, rfl, ?_⟩, by simp [intOf]; omega⟩
                        exact T6
                      · obtain rfl : j = m := by omega
                        have j1 : ¬ (j : Int) < (j : Int) := by omega
                        go_wp2_with fail
                        go_ret
                        exact ⟨rfl, unhide FIN _ _ ((unhide T4).congr (unhide hM).symm (fun _ _ => rfl) fun _ _ => rfl)⟩
end Go.Proofs.Ytaogokgklkdmpaa
