/-
  The document's pool: the contract of Cut.
-/
import Derived.Test.YtaogokgklkdmpaaRefF
namespace Go.Proofs.Ytaogokgklkdmpaa
open Go.RowKit Go.Maps

theorem Tw.len {base : Nat} {W wr : World} {c : Nat} {bv : Value} {va : Option Addr} {m cap : Nat} {byte : Nat → Int} {has : Nat → Bool} (T : Tw base W wr c bv (.slice va m cap) m byte has) : lenAt wr c = m := by
  unfold lenAt
  rw [T.cells.1]
theorem Tw.in {base : Nat} {W wr : World} {c : Nat} {bv : Value} {va : Option Addr} {m cap : Nat} {byte : Nat → Int} {has : Nat → Bool} (T : Tw base W wr c bv (.slice va m cap) m byte has) {Z : Nat} (hZ : Z ≤ m) (hm : m ≤ cap) : In wr va Z cap byte := fun h0 => by
  rcases own_at T.hb with ⟨_, h2, _⟩ | ⟨g, cap, cur, h1, _⟩
  · omega
  · cases h1
    exact ⟨g, 0, rfl, fun j hj => by have := row_bs T.hb j (by omega); simpa using this, by omega⟩
set_option maxHeartbeats 2000000 in
theorem rcut_any {base lim n : Nat} {W : World} {q : Nat} {s : S} (h : Rq base lim n W q s) (f z : Int) (hf : (kl f).wf = true) (hl : s.fs.length ≤ 1000000) :
    Calls Try.prog 25 #[P0 q, I f, I z] W fun e w' => e = .returned (I (cutE (s.get f) z)) ∧ Rq base w'.heap.size n w' q (cutS s f z) ∧ RFr base lim W w' := by
  have h' := h
  obtain ⟨Lv, fb, bv, h⟩ := h
  have hr := hide (h'.mono h.ll.2 (Nat.le_refl _))
  have hb := hide (RFr.of_below (base := base) (lim := lim) (Below.refl _ W) (by have := h.ll; omega))
  clear h'
  cases e : s.get f with
  | none =>
    have he : ofV s fb f = .pointer none := by simp only [ofV, e]
    simp only [cutE, cutS, e]
    go_enter Try.func25, Try.ntmps25
    go_wp2_with fail
    refine (of_any h f hf hl).mono ?_
    rintro e w1 ⟨rfl, rfl⟩
    rw [he]
    go_wp2_with fail
    go_ret
    exact ⟨rfl, unhide hr, unhide hb⟩
  | some x =>
    have he : ofV s fb f = P0 (fb (f.toNat - 1)) := by simp only [ofV, e]
    simp only [cutE, cutS, e]
    by_cases z0 : z < 0
    · simp only [if_pos z0]
      go_enter Try.func25, Try.ntmps25
      go_wp2_with fail
      refine (of_any h f hf hl).mono ?_
      rintro e w1 ⟨rfl, rfl⟩
      rw [he]
      go_wp2_with fail
      go_ret
      exact ⟨rfl, unhide hr, unhide hb⟩
    · by_cases z1 : 1024 < z
      · simp only [if_neg z0, if_pos z1]
        go_enter Try.func25, Try.ntmps25
        go_wp2_with fail
        refine (of_any h f hf hl).mono ?_
        rintro e w1 ⟨rfl, rfl⟩
        rw [he]
        go_wp2_with fail
        go_ret
        exact ⟨rfl, unhide hr, unhide hb⟩
      · simp only [if_neg z0, if_neg z1]
        obtain ⟨Z, rfl⟩ := Int.eq_ofNat_of_zero_le (show 0 ≤ z by omega)
        simp only [Int.toNat_natCast]
        obtain ⟨k1, k2⟩ := S.get_at e
        obtain ⟨k, hk⟩ : ∃ k, k = f.toNat - 1 := ⟨_, rfl⟩
        rw [← hk] at k2 he
        have hx := h.hx k x k2
        have FIN : ∀ wr v, Tw base W wr (fb k) (bv k) v (x.cut Z).size (x.cut Z).byte (x.cut Z).has → Rq base wr.heap.size n wr q (s.put f (some (x.cut Z)) (s.left + (x.used - (x.cut Z).used))) ∧ RFr base lim W wr := fun wr v T => T.done h k2 (F.cut_ok hx.ok (by omega)) (by simp only [S.put]; rw [← hk])
        have T0 := hide hx.tw
        obtain ⟨c, hc⟩ : ∃ c, c = fb k := ⟨_, rfl⟩
        obtain ⟨bw, hbw⟩ : ∃ bw, bw = bv k := ⟨_, rfl⟩
        obtain ⟨L2, hL2⟩ : ∃ l, l = s.left + (x.used - (x.cut Z).used) := ⟨_, rfl⟩
        rw [← hc, ← hbw] at T0 FIN
        rw [← hL2] at FIN ⊢
        rw [← hc] at he
        have hsz : x.size ≤ 1024 := hx.ok.most
        have hbeh := hide hx.ok.beh
        have hbs : base ≤ W.heap.size := by have := h.ll; omega
        have Z1 : (Z : Int) ≤ 1024 := by omega
        obtain ⟨i0, hi, hz0, hzz1, hzz2⟩ := info_parts info5
        have hbu := build0
        replace FIN := hide FIN
        have H := hide h
        have HE := hide he
        clear hr hb h he hx hc hbw hL2 k1 k2 hk e z0 z1
        go_enter Try.func25, Try.ntmps25
        go_wp2_with fail
        refine (of_any (unhide H) f hf hl).mono ?_
        rintro e w1 ⟨rfl, rfl⟩
        rw [unhide HE]
        go_wp2_with fail
        go_loopw [] (fun wr => ∃ (v : Value) (m : Nat), x.size ≤ m ∧ m ≤ 1024 ∧ Hid (Tw base w1 wr c bw v m x.byte x.has)) (fun wr => Z - lenAt wr c)
        case atStart => exact ⟨bw, x.size, by omega, hsz, T0⟩
        case round =>
          obtain ⟨v, m, hm1, hm2, T⟩ := hrel
          obtain ⟨va, vcap, hv, hmc⟩ := own_val (unhide T).hb
          subst hv
          obtain ⟨d0, _, df⟩ := (unhide T).cells
          by_cases hmZ : m < Z
          · have q1 : (m : Int) < (Z : Int) := by omega
            have HO := hide ((unhide T).hb.alloc (.cells #[U 0] 5))
            go_wp2_with (first | (at_builtin; refine wpList_append_own_at _ rfl _ _ 28 rfl base 5 i0 (U 0) 1 1 Try.underlying28 hi hz0 hzz1 hzz2 rfl (by decide) (.slice va m vcap) m _ rfl (unhide HO) ⟨wr.heap.size, 0, none⟩ 1 1 [U 0] rfl rfl (cell_one_new _ _ _) ?_ (by unfold maxLen; omega) (by omega) ?_ ?_) | fail)
            · intro u hu
              simp at hu
              subst hu
              rfl
            · have := (unhide T).fr.size
              simp
              omega
            · intro v' w2 hO2 hG _ hblk
              obtain ⟨oa, ocap, hv, _⟩ := own_val hO2
              subst hv
              have hcw : w2.heap[c]? = wr.heap[c]? := by
                rw [hG.block c (by have := lt_of_heap (unhide T).hc; simp; omega) (fun e => (unhide T).ne e.symm rfl), Below.heap_alloc _ _ _ (lt_of_heap (unhide T).hc)]
              have df2 := frozen_of (hcw.trans (unhide T).hc)
              have dc2 : w2.cell? ⟨c, 0, none⟩ = some (.slice va m vcap) := (cell_same hcw 0).trans d0
              have T2 := hide ((unhide T).push (unhide hbeh m hm1) hO2 hG hblk)
              clear hcw hO2 hG hblk
              go_wp2_with fail
              refine ⟨⟨_, m + 1, by omega, by omega, T2⟩, ?_⟩
              rw [(unhide T2).len, (unhide T).len]
              omega
          · have q1 : ¬ (m : Int) < (Z : Int) := by omega
            have q2 : (Z : Int) ≤ (vcap : Int) := by omega
            have q3 : (Z : Int) ≤ (m : Int) := by omega
            have hK1 : Below wr.heap.size wr (wr.alloc (.cells #[] 5)) := (Below.refl _ _).alloc (Nat.le_refl _) _
            obtain ⟨gm, cc, w3, hrun, hO3, K3⟩ := app_row (((unhide T).in (show Z ≤ m by omega) hmc).below hK1) (by omega)
            have hcw : w3.heap[c]? = wr.heap[c]? := K3.block c (lt_of_heap (unhide T).hc)
            have df3 := frozen_of (hcw.trans (unhide T).hc)
            have dc3 : w3.cell? ⟨c, 0, none⟩ = some (.slice va m vcap) := (cell_same hcw 0).trans d0
            have d8 : (wr.alloc (Obj.cells #[] 5)).cell? ⟨c, 0, none⟩ = some (.slice va m vcap) := (cell_same (Below.heap_alloc _ _ _ (lt_of_heap (unhide T).hc)) 0).trans d0
            have hfs := (unhide T).fr.size
            have T3 := hide ((unhide T).row hcw (own_base hO3 (Nat.le_trans hbs hfs)) ((unhide T).fr.trans (.of_below K3)) (fun g hg => .inr (Nat.le_trans hfs (own_blk hO3 hg).1)))
            clear hcw hO3 K3 hK1
            go_wp2_with (first | (at_builtin; refine wpList_append_eq rfl _ _ 28 rfl 28 rfl _ _ rfl rfl _ _ hrun ?_) | fail)
            go_loopw [8] (fun i wt => ∃ j : Nat, j ≤ 64 ∧ i = I (j : Int) ∧ Hid (Tw base w1 wt c bw (.slice (some ⟨gm, 0, none⟩) Z cc) Z x.byte (fun k => if k < j ∧ Z ≤ 16 * k then false else x.has k))) (fun i _ => 64 - (intOf i).toNat)
            case atStart => exact ⟨0, by omega, rfl, hide ((unhide T3).congr rfl (fun _ _ => rfl) fun i _ => by simp)⟩
            case round =>
              obtain ⟨j, hj, rfl, T4⟩ := hrel
              obtain ⟨_, dh, df4⟩ := (unhide T4).cells
              by_cases hj4 : j < 64
              · have j1 : (j : Int) < 64 := by omega
                have j0 : (0 : Int) ≤ (j : Int) := by omega
                have d4 := dh j hj4
                clear dh
                by_cases hjZ : Z ≤ 16 * j
                · have j2 : (Z : Int) ≤ (j : Int) * 16 := by omega
                  go_wp2_with fail
                  refine ⟨⟨j + 1, by omega, rfl, hide ((unhide T4).flag hj4 false fun i hi => ?_)⟩, by simp [intOf]; omega⟩
                  by_cases e1 : i = j
                  · subst e1
                    rw [if_pos rfl, if_pos (by omega)]
                  · rw [if_neg e1]
                    by_cases e2 : i < j ∧ Z ≤ 16 * i
                    · rw [if_pos e2, if_pos (by omega)]
                    · rw [if_neg e2, if_neg (by omega)]
                · have j2 : ¬ (Z : Int) ≤ (j : Int) * 16 := by omega
                  go_wp2_with fail
                  refine ⟨⟨j + 1, by omega, rfl, hide ((unhide T4).congr rfl (fun _ _ => rfl) fun i hi => ?_)⟩, by simp [intOf]; omega⟩
                  by_cases e2 : i < j ∧ Z ≤ 16 * i
                  · rw [if_pos e2, if_pos (by omega)]
                  · rw [if_neg e2, if_neg (by omega)]
              · obtain rfl : j = 64 := by omega
                have j1 : ¬ ((64 : Nat) : Int) < 64 := by omega
                clear dh
                go_wp2_with fail
                go_ret
                refine ⟨rfl, unhide FIN _ _ ((unhide T4).congr rfl (fun i hi => ?_) fun i hi => ?_)⟩
                · simp only [F.cut, cutF]
                  rw [if_pos hi]
                · simp only [F.cut, cutH]
                  by_cases e1 : Z ≤ 16 * i
                  · rw [if_pos ⟨hi, e1⟩, decide_eq_false (by omega), Bool.and_false]
                  · rw [if_neg (by omega), decide_eq_true (by omega), Bool.and_true]
end Go.Proofs.Ytaogokgklkdmpaa
