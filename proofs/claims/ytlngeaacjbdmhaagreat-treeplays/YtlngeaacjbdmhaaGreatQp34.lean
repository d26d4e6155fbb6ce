/-
  The document's pool: the contract of Cut.
-/
import Derived.Test.YtlngeaacjbdmhaaGreatQp33
import Derived.Test.YtlngeaacjbdmhaaGreatQp04
import Derived.Test.YtlngeaacjbdmhaaGreatQp15
import Derived.Test.YtlngeaacjbdmhaaGreatQp10
namespace Go.Proofs.YtlngeaacjbdmhaaGreat.Rb
open Go.RowKit Go.Maps
theorem build0 (w : World) : (Instr.buildSlice 34 0 #[]).run Tryz.prog w = .ok (.slice (some ⟨w.heap.size, 0, none⟩) 0 0) (w.alloc (.cells #[] 5)) := by
  obtain ⟨i0, hi, hz0, hz1, hz2⟩ := info_parts info5
  have h1 : Tryz.prog.underlying 34 = some (.slice 5) := Tryz.underlying34
  simp [Instr.buildSlice, run_underlying h1, sizeOf, typeInfo, hi, Instr.fill, newRow, Array.range_zero']
theorem Tw.len {base : Nat} {W wr : World} {c : Nat} {bv : Value} {va : Option Addr} {m cap : Nat} {byte : Nat → Int} {has : Nat → Bool} (T : Tw base W wr c bv (.slice va m cap) m byte has) : lenAt wr c = m := by
  unfold lenAt
  rw [T.cells.1]
theorem Tw.in {base : Nat} {W wr : World} {c : Nat} {bv : Value} {va : Option Addr} {m cap : Nat} {byte : Nat → Int} {has : Nat → Bool} (T : Tw base W wr c bv (.slice va m cap) m byte has) {Z : Nat} (hZ : Z ≤ m) (hm : m ≤ cap) : In wr va Z cap byte := fun h0 => by
  rcases own_at T.hb with ⟨_, h2, _⟩ | ⟨g, cap, cur, h1, _⟩
  · omega
  · cases h1
    exact ⟨g, 0, rfl, fun j hj => by have := row_bs T.hb j (by omega); simpa using this, by omega⟩
set_option maxRecDepth 100000 in
set_option maxHeartbeats 2000000 in
theorem rcut_any {base lim n : Nat} {W : World} {q : Nat} {s : S} (h : Rq base lim n W q s) (f z : Int) (hf : (kl f).wf = true) (hl : s.fs.length ≤ 1000000) :
    Calls Tryz.prog 141 #[P0 q, I f, I z] W fun e w' => e = .returned (I (cutE (s.get f) z)) ∧ Rq base w'.heap.size n w' q (cutS s f z) ∧ RFr base lim W w' := by
  have h' := h
  obtain ⟨Lv, fb, bv, h⟩ := h
  have hr := hide (h'.mono h.ll.2 (Nat.le_refl _))
  have hb := hide (RFr.of_below (base := base) (lim := lim) (Below.refl _ W) (by have := h.ll; omega))
  clear h'
  cases e : s.get f with
  | none =>
    have he : ofV s fb f = .pointer none := by simp only [ofV, e]
    simp only [cutE, cutS, e]
    go_enter Tryz.func141, Tryz.ntmps141
    go_wp2_with fail
    refine (of_any h f hf hl).mono ?_
    rintro e w1 ⟨rfl, rfl⟩
    rw [he]
    go_wp2_with fail
    go_ret
    exact ⟨rfl, unhide hr, unhide hb⟩
  | some x =>
    have he : ofV s fb f = P0 (fb (f.toNat - 1)) := by simp only [ofV, e]
    simp only [cutE, cutS, e]
    by_cases z0 : z < 0
    · simp only [if_pos z0]
      go_enter Tryz.func141, Tryz.ntmps141
      go_wp2_with fail
      refine (of_any h f hf hl).mono ?_
      rintro e w1 ⟨rfl, rfl⟩
      rw [he]
      go_wp2_with fail
      go_ret
      exact ⟨rfl, unhide hr, unhide hb⟩
    · by_cases z1 : 1024 < z
      · simp only [if_neg z0, if_pos z1]
        go_enter Tryz.func141, Tryz.ntmps141
        go_wp2_with fail
        refine (of_any h f hf hl).mono ?_
        rintro e w1 ⟨rfl, rfl⟩
        rw [he]
        go_wp2_with fail
        go_ret
        exact ⟨rfl, unhide hr, unhide hb⟩
      · simp only [if_neg z0, if_neg z1]
        obtain ⟨Z, rfl⟩ := Int.eq_ofNat_of_zero_le (show 0 ≤ z by omega)
        simp only [Int.toNat_natCast]
        obtain ⟨k1, k2⟩ := S.get_at e
        obtain ⟨k, hk⟩ : ∃ k, k = f.toNat - 1 := ⟨_, rfl⟩
        rw [← hk] at k2 he
        have hx := h.hx k x k2
        have FIN : ∀ wr v, Tw base W wr (fb k) (bv k) v (x.cut Z).size (x.cut Z).byte (x.cut Z).has → Rq base wr.heap.size n wr q (s.put f (some (x.cut Z)) (s.left + (x.used - (x.cut Z).used))) ∧ RFr base lim W wr := fun wr v T => T.done h k2 (F.cut_ok hx.ok (by omega)) (by simp only [S.put]; rw [← hk])
        have T0 := hide hx.tw
        obtain ⟨c, hc⟩ : ∃ c, c = fb k := ⟨_, rfl⟩
        obtain ⟨bw, hbw⟩ : ∃ bw, bw = bv k := ⟨_, rfl⟩
        obtain ⟨L2, hL2⟩ : ∃ l, l = s.left + (x.used - (x.cut Z).used) := ⟨_, rfl⟩
        rw [← hc, ← hbw] at T0 FIN
        rw [← hL2] at FIN ⊢
        rw [← hc] at he
        have hsz : x.size ≤ 1024 := hx.ok.most
        have hbeh := hide hx.ok.beh
        have hbs : base ≤ W.heap.size := by have := h.ll; omega
        have Z1 : (Z : Int) ≤ 1024 := by omega
        obtain ⟨i0, hi, hz0, hzz1, hzz2⟩ := info_parts info5
        have hbu := build0
        replace FIN := hide FIN
        have H := hide h
        have HE := hide he
        clear hr hb h he hx hc hbw hL2 k1 k2 hk e z0 z1
        go_enter Tryz.func141, Tryz.ntmps141
        go_wp2_with fail
        refine (of_any (unhide H) f hf hl).mono ?_
        rintro e w1 ⟨rfl, rfl⟩
        rw [unhide HE]
        go_wp2_with fail
        go_loopw [] (fun wr => ∃ (v : Value) (m : Nat), x.size ≤ m ∧ m ≤ 1024 ∧ Hid (Tw base w1 wr c bw v m x.byte x.has)) (fun wr => Z - lenAt wr c)
        case atStart => exact ⟨bw, x.size, by omega, hsz, T0⟩
        case round =>
          obtain ⟨v, m, hm1, hm2, T⟩ := hrel
          obtain ⟨va, vcap, hv, hmc⟩ := own_val (unhide T).hb
          subst hv
          obtain ⟨d0, _, df⟩ := (unhide T).cells
          by_cases hmZ : m < Z
          · have q1 : (m : Int) < (Z : Int) := by omega
            have HO := hide ((unhide T).hb.alloc (.cells #[U 0] 5))
            go_wp2_with (first | (at_builtin; refine wpList_append_own_at _ rfl _ _ 34 rfl base 5 i0 (U 0) 1 1 Tryz.underlying34 hi hz0 hzz1 hzz2 rfl (by decide) (.slice va m vcap) m _ rfl (unhide HO) ⟨wr.heap.size, 0, none⟩ 1 1 [U 0] rfl rfl (cell_one_new _ _ _) ?_ (by unfold maxLen; omega) (by omega) ?_ ?_) | fail)
            · intro u hu
              simp at hu
              subst hu
              rfl
            · have := (unhide T).fr.size
              simp
              omega
            · intro v' w2 hO2 hG _ hblk
              obtain ⟨oa, ocap, hv, _⟩ := own_val hO2
              subst hv
              have hcw : w2.heap[c]? = wr.heap[c]? := by
                rw [hG.block c (by have := lt_of_heap (unhide T).hc; simp; omega) (fun e => (unhide T).ne e.symm rfl), Below.heap_alloc _ _ _ (lt_of_heap (unhide T).hc)]
              have df2 := frozen_of (hcw.trans (unhide T).hc)
              have dc2 : w2.cell? ⟨c, 0, none⟩ = some (.slice va m vcap) := (cell_same hcw 0).trans d0
              have T2 := hide ((unhide T).push (unhide hbeh m hm1) hO2 hG hblk)
              clear hcw hO2 hG hblk
              go_wp2_with fail
              refine ⟨⟨_, m + 1, by omega, by omega, T2⟩, ?_⟩
              rw [(unhide T2).len, (unhide T).len]
              omega
          · have q1 : ¬ (m : Int) < (Z : Int) := by omega
            have q2 : (Z : Int) ≤ (vcap : Int) := by omega
            have q3 : (Z : Int) ≤ (m : Int) := by omega
            have hK1 : Below wr.heap.size wr (wr.alloc (.cells #[] 5)) := (Below.refl _ _).alloc (Nat.le_refl _) _
            obtain ⟨gm, cc, w3, hrun, hO3, K3⟩ := app_row (((unhide T).in (show Z ≤ m by omega) hmc).below hK1) (by omega)
            have hcw : w3.heap[c]? = wr.heap[c]? := K3.block c (lt_of_heap (unhide T).hc)
            have df3 := frozen_of (hcw.trans (unhide T).hc)
            have dc3 : w3.cell? ⟨c, 0, none⟩ = some (.slice va m vcap) := (cell_same hcw 0).trans d0
            have d8 : (wr.alloc (Obj.cells #[] 5)).cell? ⟨c, 0, none⟩ = some (.slice va m vcap) := (cell_same (Below.heap_alloc _ _ _ (lt_of_heap (unhide T).hc)) 0).trans d0
            have hfs := (unhide T).fr.size
            have T3 := hide ((unhide T).row hcw (own_base hO3 (Nat.le_trans hbs hfs)) ((unhide T).fr.trans (.of_below K3)) (fun g hg => .inr (Nat.le_trans hfs (own_blk hO3 hg).1)))
            clear hcw hO3 K3 hK1
            go_wp2_with (first | (at_builtin; refine wpList_append_eq rfl _ _ 34 rfl 34 rfl _ _ (by rfl) (by rfl) _ _ hrun ?_) | fail)
            go_loopw [8] (fun i wt => ∃ j : Nat, j ≤ 64 ∧ i = I (j : Int) ∧ Hid (Tw base w1 wt c bw (.slice (some ⟨gm, 0, none⟩) Z cc) Z x.byte (fun k => if k < j ∧ Z ≤ 16 * k then false else x.has k))) (fun i _ => 64 - (intOf i).toNat)
            case atStart => exact ⟨0, by omega, rfl, hide ((unhide T3).congr rfl (fun _ _ => rfl) fun i _ => by simp)⟩
            case round =>
              obtain ⟨j, hj, rfl, T4⟩ := hrel
              obtain ⟨_, dh, df4⟩ := (unhide T4).cells
              by_cases hj4 : j < 64
              · have j1 : (j : Int) < 64 := by omega
                have j0 : (0 : Int) ≤ (j : Int) := by omega
                have d4 := dh j hj4
                clear dh
                by_cases hjZ : Z ≤ 16 * j
                · have j2 : (Z : Int) ≤ (j : Int) * 16 := by omega
                  go_wp2_with fail
                  refine ⟨⟨j + 1, by omega, rfl, hide ((unhide T4).flag hj4 false fun i hi => ?_)⟩, by simp [intOf]; omega⟩
                  by_cases e1 : i = j
                  · subst e1
                    rw [if_pos rfl, if_pos (by omega)]
                  · rw [if_neg e1]
                    by_cases e2 : i < j ∧ Z ≤ 16 * i
                    · rw [if_pos e2, if_pos (by omega)]
                    · rw [if_neg e2, if_neg (by omega)]
                · have j2 : ¬ (Z : Int) ≤ (j : Int) * 16 := by omega
                  go_wp2_with fail
                  refine ⟨⟨j + 1, by omega, rfl, hide ((unhide T4).congr rfl (fun _ _ => rfl) fun i hi => ?_)⟩, by simp [intOf]; omega⟩
                  by_cases e2 : i < j ∧ Z ≤ 16 * i
                  · rw [if_pos e2, if_pos (by omega)]
                  · rw [if_neg e2, if_neg (by omega)]
              · obtain rfl : j = 64 := by omega
                have j1 : ¬ ((64 : Nat) : Int) < 64 := by omega
                clear dh
                go_wp2_with fail
                go_ret
                refine ⟨rfl, unhide FIN _ _ ((unhide T4).congr rfl (fun i hi => ?_) fun i hi => ?_)⟩
                · simp only [F.cut, cutF]
                  rw [if_pos hi]
                · simp only [F.cut, cutH]
                  by_cases e1 : Z ≤ 16 * i
                  · rw [if_pos ⟨hi, e1⟩, decide_eq_false (by omega), Bool.and_false]
                  · rw [if_neg (by omega), decide_eq_true (by omega), Bool.and_true]
end Go.Proofs.YtlngeaacjbdmhaaGreat.Rb

namespace Go.Proofs.YtlngeaacjbdmhaaGreat.Rb
open Go.RowKit Go.Maps
set_option maxHeartbeats 1000000 in
theorem rused0 {base lim : Nat} {W : World} {c : Nat} {bv : Value} {x : F} (h : RF base lim W c bv x) : Calls Tryz.prog 281 #[P0 c] W fun e w' => e = .returned (I x.used) ∧ w' = W := by
  obtain ⟨c0, ch, cf⟩ := h.cells
  replace ch := hide ch
  clear c0 cf h
  go_enter Tryz.func281, Tryz.ntmps281
  go_wp2_with fail
  go_loopw [3, 4] (fun v i wr => ∃ (k N : Nat), k ≤ 64 ∧ i = I (k : Int) ∧ v = I (N : Int) ∧ N ≤ k ∧ Hid (N = cnt k x.has) ∧ wr = W) (fun _ i _ => 64 - (intOf i).toNat)
  case atStart => exact ⟨0, 0, by omega, rfl, rfl, by omega, hide rfl, rfl⟩
  case round =>
    obtain ⟨k, N, hk, rfl, rfl, hNk, hN, rfl⟩ := hrel
    by_cases hk4 : k < 64
    · have z1 : (k : Int) < 64 := by omega
      have z0 : (0 : Int) ≤ (k : Int) := by omega
      have hc := unhide ch k hk4
      cases hx : x.has k with
      | true =>
        rw [hx] at hc
        go_wp2_with fail
        refine ⟨⟨k + 1, N + 1, by omega, rfl, rfl, by omega, hide ?_, trivial⟩, by simp [intOf]; omega⟩
        rw [cnt_succ, hx, unhide hN]
        simp
      | false =>
        rw [hx] at hc
        go_wp2_with fail
        refine ⟨⟨k + 1, N, by omega, rfl, rfl, by omega, hide ?_, trivial⟩, by simp [intOf]; omega⟩
        rw [cnt_succ, hx, unhide hN]
        simp
    · obtain rfl : k = 64 := by omega
      have z1 : ¬ ((64 : Nat) : Int) < 64 := by omega
      go_wp2_with fail
      go_ret
      refine ⟨?_, rfl⟩
      rw [show x.used = N from (unhide hN).symm]
      rfl
set_option maxHeartbeats 1000000 in
theorem rleft_any {base lim n : Nat} {W : World} {q : Nat} {s : S} (h : Rq base lim n W q s) (ht : s.left + total s.fs = n) (hn : n ≤ 256) (hl : s.fs.length ≤ 1000000) :
    Calls Tryz.prog 220 #[P0 q] W fun e w' => e = .returned (I s.left) ∧ w' = W := by
  obtain ⟨Lv, fb, bv, h⟩ := h
  obtain ⟨c0, c1, cf⟩ := h.cells
  obtain ⟨a, cap, hLv, hcap⟩ := own_val h.hL
  obtain ⟨L, hL⟩ : ∃ L : Nat, L = s.fs.length := ⟨_, rfl⟩
  rw [← hL] at hLv hl
  rw [hLv] at c1
  have H := hide h
  have n1 : (n : Int) ≤ 256 := by omega
  have L1 : (L : Int) ≤ 1000000 := by omega
  replace hL := hide hL
  replace hLv := hide hLv
  replace ht := hide ht
  clear h cf
  go_enter Tryz.func220, Tryz.ntmps220
  go_wp2_with fail
  go_loopw [3, 4] (fun v i wr => ∃ (k y : Nat), k ≤ L ∧ i = I (k : Int) ∧ v = I (y : Int) ∧ y ≤ n ∧ Hid (y + total (s.fs.take k) = n) ∧ wr = W) (fun _ i _ => L - (intOf i).toNat)
  case atStart => exact ⟨0, n, by omega, rfl, rfl, by omega, hide (by simp [total]), rfl⟩
  case round =>
    obtain ⟨k, y, hk, rfl, rfl, hyn, hy, rfl⟩ := hrel
    by_cases hkL : k < L
    · have z1 : (k : Int) < (L : Int) := by omega
      have z0 : (0 : Int) ≤ (k : Int) := by omega
      have hkf : k < s.fs.length := by rw [← unhide hL]; exact hkL
      obtain ⟨o, ho⟩ : ∃ o, s.fs[k]? = some o := ⟨_, List.getElem?_eq_getElem hkf⟩
      obtain ⟨g, cap2, e1, _, hc, _⟩ := own_cell (unhide H).hL hkf
      rw [ptrs_get, ho, Option.map_some] at hc
      rw [unhide hLv, ← unhide hL] at e1
      cases e1
      have htk := total_take s.fs k o ho
      have hle : total (s.fs.take (k + 1)) ≤ n := by
        have h1 := unhide ht
        have : total (s.fs.take (k + 1)) ≤ total s.fs := by
          have h2 : s.fs = s.fs.take (k + 1) ++ s.fs.drop (k + 1) := (List.take_append_drop _ _).symm
          have h3 : ∀ a b : List (Option F), total a ≤ total (a ++ b) := by
            intro a b
            induction a with
            | nil => simp [total]
            | cons x a ih => simp [total]; omega
          conv => rhs; rw [h2]
          exact h3 _ _
        omega
      cases o with
      | none =>
        simp only [ptrV] at hc
        replace hle := hide hle
        replace htk := hide htk
        go_wp2_with fail
        refine ⟨⟨k + 1, y, by omega, rfl, rfl, by omega, hide ?_, trivial⟩, by simp [intOf]; omega⟩
        rw [unhide htk]
        exact unhide hy
      | some x =>
        simp only [ptrV] at hc
        have hx := (unhide H).hx k x ho
        obtain ⟨u, hu⟩ : ∃ u : Nat, u = x.used := ⟨_, rfl⟩
        have hyu : u ≤ y := by
          have := unhide hy
          simp only [usedO, ← hu] at htk
          omega
        have hyu1 : (u : Int) ≤ (y : Int) := by omega
        have y256 : (y : Int) ≤ 256 := by omega
        replace hle := hide hle
        replace htk := hide htk
        replace hx := hide hx
        replace hu := hide hu
        go_wp2_with fail
        refine (rused0 (unhide hx)).mono ?_
        rintro e w2 ⟨rfl, rfl⟩
        rw [← unhide hu]
        go_wp2_with fail
        refine ⟨⟨k + 1, y - u, by omega, rfl, congrArg I (by omega), by omega, hide ?_, trivial⟩, by simp [intOf]; omega⟩
        rw [unhide htk]
        simp only [usedO, ← unhide hu]
        have := unhide hy
        omega
    · obtain rfl : k = L := by omega
      have z1 : ¬ (k : Int) < (k : Int) := by omega
      go_wp2_with fail
      go_ret
      have e : y = s.left := by
        have h1 := unhide hy
        rw [List.take_of_length_le (by rw [← unhide hL]; exact Nat.le_refl _)] at h1
        have := unhide ht
        omega
      rw [e]
      exact ⟨rfl, rfl⟩
end Go.Proofs.YtlngeaacjbdmhaaGreat.Rb

namespace Go.Proofs.YtlngeaacjbdmhaaGreat.Rb
open Go.RowKit Go.Maps
theorem lacks_cnt {x : F} {a n B L : Nat} (h1 : B = a / 16) (h2 : L = (a + n - 1) / 16) (hn : 0 < n) (hL : L < 64) : cnt (L + 1) (fun j => decide (B ≤ j) && !x.has j) = x.lacks a n := by
  rw [F.lacks]
  have hz : ∀ d, L + 1 + d ≤ 64 → cnt (L + 1 + d) (fun k => decide (a / 16 ≤ k ∧ 16 * k < a + n) && !x.has k) = cnt (L + 1) (fun j => decide (B ≤ j) && !x.has j) := by
    intro d
    induction d with
    | zero =>
      intro _
      refine cnt_congr fun k hk => ?_
      have : (a / 16 ≤ k ∧ 16 * k < a + n) ↔ B ≤ k := by omega
      simp [this]
    | succ d ih =>
      intro hd
      rw [← Nat.add_assoc, cnt_succ, ih (by omega)]
      have : ¬ (a / 16 ≤ L + 1 + d ∧ 16 * (L + 1 + d) < a + n) := by omega
      simp [this]
  have := hz (64 - (L + 1)) (by omega)
  rw [show L + 1 + (64 - (L + 1)) = 64 by omega] at this
  exact this.symm
theorem lay_step (f : Nat → Int) (a j : Nat) (g : Nat → Int) (i : Nat) : lay f a (j + 1) g i = if i = a + j then g j else lay f a j g i := by
  simp only [lay]
  by_cases e : i = a + j
  · rw [if_pos e, if_pos (by omega)]
    congr 1
    omega
  · rw [if_neg e]
    by_cases h : a ≤ i ∧ i < a + j
    · rw [if_pos h, if_pos (by omega)]
    · rw [if_neg h, if_neg (by omega)]
theorem layH_step (h : Nat → Bool) (a j : Nat) (i : Nat) : layH h a (j + 1) i = if i = (a + j) / 16 then true else layH h a j i := by
  simp only [layH]
  by_cases e : i = (a + j) / 16
  · rw [if_pos e, decide_eq_true (by omega), Bool.or_true]
  · rw [if_neg e]
    congr 1
    rw [decide_eq_decide]
    omega
set_option maxRecDepth 100000 in
set_option maxHeartbeats 2000000 in
theorem rwrite_any {base lim n : Nat} {W : World} {q : Nat} {s : S} (h : Rq base lim n W q s) (ht : s.left + total s.fs = n) (hn : n ≤ 256) (f a : Int) (hf : (kl f).wf = true) (hl : s.fs.length ≤ 1000000) {u : World} (ad : Option Addr) (m cap : Nat) (g : Nat → Int) (hin : In u ad m cap g) (hu : base = u.heap.size) (B : Below base u W) (hm : m ≤ 1100) :
    Calls Tryz.prog 138 #[P0 q, I f, I a, .slice ad m cap] W fun e w' => e = .returned (I (writeE s f a m)) ∧ Rq base w'.heap.size n w' q (writeS s f a m g) ∧ RFr base lim W w' := by
  have h' := h
  obtain ⟨Lv, fb, bv, h⟩ := h
  have hr := hide (h'.mono h.ll.2 (Nat.le_refl _))
  have hb := hide (RFr.of_below (base := base) (lim := lim) (Below.refl _ W) (by have := h.ll; omega))
  have HQ := hide h'
  clear h'
  replace hin := hide hin
  replace B := hide B
  replace hu := hide hu
  cases e : s.get f with
  | none =>
    have he : ofV s fb f = .pointer none := by simp only [ofV, e]
    simp only [writeE, writeS, e]
    go_enter Tryz.func138, Tryz.ntmps138
    go_wp2_with fail
    refine (of_any h f hf hl).mono ?_
    rintro e w1 ⟨rfl, rfl⟩
    rw [he]
    go_wp2_with fail
    go_ret
    exact ⟨rfl, unhide hr, unhide hb⟩
  | some x =>
    have he : ofV s fb f = P0 (fb (f.toNat - 1)) := by simp only [ofV, e]
    simp only [writeE, writeS, e]
    by_cases a0 : a < 0
    · simp only [if_pos a0]
      go_enter Tryz.func138, Tryz.ntmps138
      go_wp2_with fail
      refine (of_any h f hf hl).mono ?_
      rintro e w1 ⟨rfl, rfl⟩
      rw [he]
      go_wp2_with fail
      go_ret
      exact ⟨rfl, unhide hr, unhide hb⟩
    · by_cases m0 : m = 0
      · simp only [if_neg a0, if_pos m0]
        subst m0
        go_enter Tryz.func138, Tryz.ntmps138
        go_wp2_with fail
        refine (of_any h f hf hl).mono ?_
        rintro e w1 ⟨rfl, rfl⟩
        rw [he]
        go_wp2_with fail
        go_ret
        exact ⟨rfl, unhide hr, unhide hb⟩
      · have m1 : ((m : Int) == 0) = false := by simp; omega
        by_cases am : 1024 < a + (m : Int)
        · simp only [if_neg a0, if_neg m0, if_pos am]
          by_cases a1 : 1024 < a
          · go_enter Tryz.func138, Tryz.ntmps138
            go_wp2_with fail
            refine (of_any h f hf hl).mono ?_
            rintro e w1 ⟨rfl, rfl⟩
            rw [he]
            go_wp2_with fail
            go_ret
            exact ⟨rfl, unhide hr, unhide hb⟩
          · have a2 : 1024 - a < (m : Int) := by omega
            go_enter Tryz.func138, Tryz.ntmps138
            go_wp2_with fail
            refine (of_any h f hf hl).mono ?_
            rintro e w1 ⟨rfl, rfl⟩
            rw [he]
            go_wp2_with fail
            go_ret
            exact ⟨rfl, unhide hr, unhide hb⟩
        · simp only [if_neg a0, if_neg m0, if_neg am]
          obtain ⟨A, rfl⟩ := Int.eq_ofNat_of_zero_le (show 0 ≤ a by omega)
          simp only [Int.toNat_natCast]
          suffices key : ∀ (ee : Int) (ss : S), (s.left < x.lacks A m → ee = 43 ∧ ss = s) → (¬ s.left < x.lacks A m → ee = 0 ∧ ss = s.put f (some (x.write A m g)) (s.left - x.lacks A m)) → Calls Tryz.prog 138 #[P0 q, I f, I (A : Int), .slice ad m cap] W fun e w' => e = .returned (I ee) ∧ Rq base w'.heap.size n w' q ss ∧ RFr base lim W w' by
            exact key _ _ (fun h => ⟨if_pos h, if_pos h⟩) (fun h => ⟨if_neg h, if_neg h⟩)
          intro ee ss hs1 hs2
          obtain ⟨k1, k2⟩ := S.get_at e
          obtain ⟨k, hk⟩ : ∃ k, k = f.toNat - 1 := ⟨_, rfl⟩
          rw [← hk] at k2 he
          have hx := h.hx k x k2
          have FIN : ∀ wr v, Tw base W wr (fb k) (bv k) v (x.write A m g).size (x.write A m g).byte (x.write A m g).has → Rq base wr.heap.size n wr q (s.put f (some (x.write A m g)) (s.left - x.lacks A m)) ∧ RFr base lim W wr := fun wr v T => T.done h k2 (F.write_ok hx.ok g (by omega)) (by simp only [S.put]; rw [← hk])
          have T0 := hide hx.tw
          have hcb : base ≤ fb k := hx.lc.1
          have hbb : ∀ b, (bv k).ownBlock = some b → base ≤ b := fun b hb => (own_blk hx.hb hb).1
          obtain ⟨c, hc⟩ : ∃ c, c = fb k := ⟨_, rfl⟩
          obtain ⟨bw, hbw⟩ : ∃ bw, bw = bv k := ⟨_, rfl⟩
          obtain ⟨lk, hlk⟩ : ∃ l, l = x.lacks A m := ⟨_, rfl⟩
          obtain ⟨L2, hL2⟩ : ∃ l, l = s.left - lk := ⟨_, rfl⟩
          rw [← hlk] at FIN hs1 hs2
          rw [← hc, ← hbw] at T0 FIN
          rw [← hbw] at hbb
          rw [← hL2] at FIN hs2
          replace hs1 := hide hs1
          replace hs2 := hide hs2
          rw [← hc] at he hcb
          have hsz : x.size ≤ 1024 := hx.ok.most
          have hbeh := hide hx.ok.beh
          have hbs : base ≤ W.heap.size := by have := h.ll; omega
          have am1 : A + m ≤ 1024 := by omega
          have am2 : (A : Int) + (m : Int) ≤ 1024 := by omega
          have am3 : (1 : Int) ≤ (m : Int) := by omega
          have am4 : (A : Int) ≤ 1024 := by omega
          have am5 : ¬ 1024 - (A : Int) < (m : Int) := by omega
          obtain ⟨B0, hB0⟩ : ∃ b, b = A / 16 := ⟨_, rfl⟩
          obtain ⟨L0, hL0⟩ : ∃ b, b = (A + m - 1) / 16 := ⟨_, rfl⟩
          have hBL : B0 ≤ L0 := by omega
          have hL64 : L0 < 64 := by omega
          have hcn := hide (lacks_cnt (x := x) hB0 hL0 (by omega) hL64)
          rw [← hlk] at hcn
          obtain ⟨lf, hlf⟩ : ∃ l, l = s.left := ⟨_, rfl⟩
          have hlf2 : lf ≤ 256 := by omega
          obtain ⟨i0, hi, hz0, hzz1, hzz2⟩ := info_parts info5
          obtain ⟨_, ch, _⟩ := hx.tw.cells
          rw [← hc] at ch
          replace ch := hide ch
          replace FIN := hide FIN
          replace hlf := hide hlf
          replace hbb := hide hbb
          have HB0 := hide hB0
          have HL0 := hide hL0
          have H := hide h
          have HE := hide he
          replace ht := hide ht
          clear h he hx hc hbw hL2 k1 k2 hk e a0 am hlk hB0 hL0
          go_enter Tryz.func138, Tryz.ntmps138
          go_wp2_with fail
          refine (of_any (unhide H) f hf hl).mono ?_
          rintro e w1 ⟨rfl, rfl⟩
          rw [unhide HE]
          go_wp2_with fail
          go_loopw [10, 11] (fun v i wr => ∃ (k N : Nat), B0 ≤ k ∧ k ≤ L0 + 1 ∧ i = I (k : Int) ∧ v = I (N : Int) ∧ N ≤ k ∧ Hid (N = cnt k (fun j => decide (B0 ≤ j) && !x.has j)) ∧ wr = w1) (fun _ i _ => L0 + 1 - (intOf i).toNat)
          case atStart =>
            refine ⟨B0, 0, by omega, by omega, congrArg I ?_, rfl, by omega, hide ?_, rfl⟩
            · have := unhide HB0
              omega
            · rw [cnt_none fun k hk => by simp; omega]
          case round =>
            obtain ⟨k, N, hk0, hk1, rfl, rfl, hNk, hN, rfl⟩ := hrel
            by_cases hkL : k ≤ L0
            · have g1 : (k : Int) ≤ ((A : Int) + (m : Int) - 1) / 16 := by have := unhide HL0; omega
              have g0 : (0 : Int) ≤ (k : Int) := by omega
              have g2 : (k : Int) < 64 := by omega
              have d0 := unhide ch k (by omega)
              cases hxk : x.has k with
              | true =>
                rw [hxk] at d0
                go_wp2_with fail
                refine ⟨⟨k + 1, N, by omega, by omega, rfl, rfl, by omega, hide ?_, trivial⟩, by simp [intOf]; omega⟩
                rw [cnt_succ, hxk, unhide hN]
                simp
              | false =>
                rw [hxk] at d0
                go_wp2_with fail
                refine ⟨⟨k + 1, N + 1, by omega, by omega, rfl, rfl, by omega, hide ?_, trivial⟩, by simp [intOf]; omega⟩
                rw [cnt_succ, hxk, unhide hN]
                simp [hk0]
            · have g1 : ¬ (k : Int) ≤ ((A : Int) + (m : Int) - 1) / 16 := by have := unhide HL0; omega
              obtain rfl : k = L0 + 1 := by omega
              have hNl : N = lk := (unhide hN).trans (unhide hcn)
              subst hNl
              have hN65 : (N : Int) ≤ 65 := by omega
              go_wp2_with fail
              refine (rleft_any (unhide HQ) (unhide ht) hn hl).mono ?_
              rintro e w2 ⟨rfl, rfl⟩
              rw [← unhide hlf]
              have hlf3 : (lf : Int) ≤ 256 := by omega
              by_cases hN2 : lf < N
              · have g3 : (lf : Int) < (N : Int) := by omega
                obtain ⟨rfl, rfl⟩ := unhide hs1 (by rw [← unhide hlf]; exact hN2)
                go_wp2_with fail
                go_ret
                exact ⟨rfl, unhide hr, unhide hb⟩
              · have g3 : ¬ (lf : Int) < (N : Int) := by omega
                obtain ⟨rfl, rfl⟩ := unhide hs2 (by rw [← unhide hlf]; exact hN2)
                clear hr hb
                go_wp2_with fail
                obtain ⟨M, hM⟩ : ∃ M : Nat, M = max x.size (A + m) := ⟨_, rfl⟩
                have hM1 : x.size ≤ M := by omega
                have hM2 : A + m ≤ M := by omega
                have hM3 : M ≤ 1024 := by omega
                replace hM := hide hM
                go_loopw [] (fun wr => ∃ (v : Value) (z : Nat), x.size ≤ z ∧ z ≤ M ∧ Hid (Tw base w2 wr c bw v z x.byte x.has)) (fun wr => A + m - lenAt wr c)
                case atStart => exact ⟨bw, x.size, by omega, hM1, T0⟩
                case round =>
                  obtain ⟨v, z, hz1, hz2, T⟩ := hrel
                  obtain ⟨va, vcap, hv, hmc⟩ := own_val (unhide T).hb
                  subst hv
                  obtain ⟨d0, _, df⟩ := (unhide T).cells
                  by_cases hmZ : z < A + m
                  · have q1 : (z : Int) < (A : Int) + (m : Int) := by omega
                    have HO := hide ((unhide T).hb.alloc (.cells #[U 0] 5))
                    go_wp2_with (first | (at_builtin; refine wpList_append_own_at _ rfl _ _ 34 rfl base 5 i0 (U 0) 1 1 Tryz.underlying34 hi hz0 hzz1 hzz2 rfl (by decide) (.slice va z vcap) z _ rfl (unhide HO) ⟨wr.heap.size, 0, none⟩ 1 1 [U 0] rfl rfl (cell_one_new _ _ _) ?_ (by unfold maxLen; omega) (by omega) ?_ ?_) | fail)
                    · intro u hu
                      simp at hu
                      subst hu
                      rfl
                    · have := (unhide T).fr.size
                      simp
                      omega
                    · intro v' w3 hO2 hG _ hblk
                      obtain ⟨oa, ocap, hv, _⟩ := own_val hO2
                      subst hv
                      have hcw : w3.heap[c]? = wr.heap[c]? := by
                        rw [hG.block c (by have := lt_of_heap (unhide T).hc; simp; omega) (fun e => (unhide T).ne e.symm rfl), Below.heap_alloc _ _ _ (lt_of_heap (unhide T).hc)]
                      have df2 := frozen_of (hcw.trans (unhide T).hc)
                      have dc2 : w3.cell? ⟨c, 0, none⟩ = some (.slice va z vcap) := (cell_same hcw 0).trans d0
                      have T2 := hide ((unhide T).push (unhide hbeh z hz1) hO2 hG hblk)
                      clear hcw hO2 hG hblk
                      go_wp2_with fail
                      refine ⟨⟨_, z + 1, by omega, by omega, T2⟩, ?_⟩
                      rw [(unhide T2).len, (unhide T).len]
                      omega
                  · have q1 : ¬ (z : Int) < (A : Int) + (m : Int) := by omega
                    obtain rfl : z = M := by have := unhide hM; omega
                    have z1024 : (z : Int) ≤ 1024 := by omega
                    obtain ⟨gg, hgg⟩ : ∃ gg, va = some ⟨gg, 0, none⟩ := by
                      obtain ⟨gg, cc, e1, _⟩ := own_cell (unhide T).hb (j := 0) (by omega)
                      cases e1
                      exact ⟨gg, rfl⟩
                    subst hgg
                    go_wp2_with fail
                    go_loopw [12] (fun i wt => ∃ j : Nat, j ≤ m ∧ i = I (j : Int) ∧ Hid (Tw base w2 wt c bw (.slice (some ⟨gg, 0, none⟩) z vcap) z (lay x.byte A j g) (layH x.has A j))) (fun i _ => m - (intOf i).toNat)
                    case atStart =>
                      refine ⟨0, by omega, rfl, ?_⟩
                      rw [lay_zero, layH_zero]
                      exact T
                    case round =>
                      obtain ⟨j, hj, rfl, T4⟩ := hrel
                      by_cases hjm : j < m
                      · have B4 : Below base u wr := (unhide B).trans ((unhide T4).fr.base hbs fun b hb => by
                          simp at hb
                          rcases hb with rfl | hb
                          · exact hcb
                          · exact unhide hbb b hb)
                        obtain ⟨sb, so, rfl, d1⟩ := ((unhide hin).base (unhide hu) B4).at hjm
                        clear B4
                        obtain ⟨d4, _, df4⟩ := (unhide T4).cells
                        obtain ⟨_, _, e1, _, _, df5⟩ := own_cell (unhide T4).hb (j := 0) (by omega)
                        cases e1
                        obtain ⟨Y, hY⟩ : ∃ Y, Y = lay x.byte A j g (A + j) := ⟨_, rfl⟩
                        have d5 : wr.cell? ⟨gg, A + j, none⟩ = some (U Y) := by
                          have := row_bs (unhide T4).hb (A + j) (by omega)
                          rw [Nat.zero_add] at this
                          simpa [hY] using this
                        clear hY
                        obtain ⟨y, hy⟩ : ∃ y, y = g j := ⟨_, rfl⟩
                        rw [← hy] at d1
                        have T5 := hide (((unhide T4).put (j := A + j) (y := y) (byte' := lay x.byte A (j + 1) g) (fun i _ => by rw [lay_step, hy])).dn)
                        obtain ⟨Q, hQ⟩ : ∃ Q, Q = (A + j) / 16 := ⟨_, rfl⟩
                        have hQ2 : Q < 64 := by omega
                        have T6 := hide ((unhide T5).flag (k := Q) hQ2 true (has' := layH x.has A (j + 1)) (fun i _ => by rw [layH_step, hQ]))
                        obtain ⟨d6, dh6, df6⟩ := (unhide T5).cells
                        have d7 := dh6 Q hQ2
                        have hQ3 : ((A : Int) + (j : Int)) / 16 = (Q : Int) := by omega
                        replace hQ := hide hQ
                        replace hy := hide hy
                        have j1 : (j : Int) < (m : Int) := by omega
                        have j0 : (0 : Int) ≤ (j : Int) := by omega
                        have j2 : (A : Int) + (j : Int) < (z : Int) := by omega
                        have j3 : (0 : Int) ≤ (A : Int) + (j : Int) := by omega
                        have j4 : (A : Int) + (j : Int) ≤ 1024 := by omega
                        clear dh6 d0 df
                        go_wp2_with fail
                        go_region
                        go_wp2_with fail
                        refine ⟨⟨j + 1, by omega, rfl, ?_⟩, by simp [intOf]; omega⟩
                        exact T6
                      · obtain rfl : j = m := by omega
                        have j1 : ¬ (j : Int) < (j : Int) := by omega
                        go_wp2_with fail
                        go_ret
                        exact ⟨rfl, unhide FIN _ _ ((unhide T4).congr (unhide hM).symm (fun _ _ => rfl) fun _ _ => rfl)⟩
end Go.Proofs.YtlngeaacjbdmhaaGreat.Rb

namespace Go.Proofs.YtlngeaacjbdmhaaGreat
open Go.RowKit Go.Maps
section
variable {lo N : Nat} {W W' : World} {t : Nat} {T : Tr} {q p : Nat} {nb : Int → Nat} {ev : Int → Value} {B : Nat}
theorem drewN_add (w : World) (k j : Nat) : (w.drewN k).drewN j = w.drewN (k + j) := by simp [World.drewN, Nat.add_assoc]
theorem writeS_len (s : S) (f a : Int) (n : Nat) (g : Nat → Int) : (writeS s f a n g).fs.length = s.fs.length := by
  simp only [writeS]
  repeat' split
  all_goals simp [S.put]
theorem Wf.pool {T : Tr} (hw : Wf B T) {s : S} (hs : s.fs.length ≤ B) : Wf B { T with pool := s } :=
  ⟨⟨hw.k.key, hw.k.srt, hw.k.liv, hw.k.made, hw.k.bnd, hw.k.nam, hw.k.txt, hw.k.fil, hw.k.knd, hw.k.upw, hw.k.num, hs, hw.k.mst⟩, hw.root, hw.one, hw.upd, hw.emp, fun n x hx hk => by
    obtain ⟨l, hl⟩ := hw.chn n x hx hk
    exact ⟨l, Ab.congr (T := T) (T' := { T with pool := s }) (fun _ => True) (fun _ _ => rfl) (fun _ _ _ => trivial) trivial hl⟩, hw.alv⟩
theorem cutS_len (s : S) (f a : Int) : (cutS s f a).fs.length = s.fs.length := by
  simp only [cutS]
  repeat' split
  all_goals simp [S.put]
set_option maxRecDepth 100000 in
set_option maxHeartbeats 1000000 in
theorem twrite_Q (h : Tq lo N W t T B) (hB : B ≤ 880) {n : Int} (hn : (kl n).wf = true) (a : Int) (ha : (kl a).wf = true) (ad : Option Addr) (m cap : Nat) (g : Nat → Int) (hi : In W ad m cap g) :
    Calls Tryz.prog 76 #[P0 t, I n, I a, .slice ad m cap] W fun e w' => e = .returned (I (writeE T.pool (T.fileOf n) a m)) ∧ Hid (Tq lo N w' t { T with pool := writeS T.pool (T.fileOf n) a m g } B) ∧ Hid (Tx lo W w') := by
  obtain ⟨⟨q, p, nb, ev, h1⟩, h2⟩ := h
  obtain ⟨c0, c1, c2, c3, cf⟩ := h1.cells
  have hfw : (kl (T.fileOf n)).wf = true := by
    simp only [Tr.fileOf]
    cases hx : T.nd n with
    | none => exact wf_of (by simp)
    | some x => exact wf_of (by have := h2.k.fil n x hx; have := h2.k.made; simp only; omega)
  have HW : Hid (∀ k, Calls Tryz.prog 136 #[P0 p, I (T.fileOf n), I a, .slice ad m cap] (W.drewN k) fun e w' => e = .returned (I (writeE T.pool (T.fileOf n) a m)) ∧ Hid (Tq lo N w' t { T with pool := writeS T.pool (T.fileOf n) a m g } B) ∧ Hid (Tx lo W w')) := fun k => by
    have hk := h1.below (below_n W k)
    refine (write_any hk.pl hfw a ha ad m cap g (hi.keep fun b _ => rfl)).mono ?_
    rintro e w' ⟨e1, P1, nx⟩
    obtain ⟨T1, X1⟩ := hk.poolT P1 nx
    exact ⟨e1, ⟨⟨q, p, nb, ev, T1⟩, h2.pool (by rw [writeS_len]; exact h2.k.pol)⟩, (Tx.of_below (below_n W k) h1.bd.2.2.1).trans X1⟩
  have HF : Hid (∀ k, Calls Tryz.prog 137 #[P0 t, I n] (W.drewN k) fun e w' => e = .returned (I (T.fileOf n)) ∧ ∃ j, w' = W.drewN j) := fun k => (file_of (h1.below (below_n W k)) hn).mono fun e w' ⟨e1, j, e2⟩ => ⟨e1, k + j, by rw [e2, drewN_add]⟩
  obtain ⟨fl, hfl⟩ : ∃ fl, fl = T.fileOf n := ⟨_, rfl⟩
  obtain ⟨E, hE⟩ : ∃ E, E = writeE T.pool (T.fileOf n) a m := ⟨_, rfl⟩
  rw [← hE] at HW ⊢
  rw [← hfl] at HW HF ⊢
  clear h1 h2 hfl hE c0 c1 c2 hi hfw
  go_enter Tryz.func76, Tryz.ntmps76
  go_wp2_with fail
  go_region_with (first
    | (go_at_call 137; refine (unhide HF 1).mono ?_; rintro e w1 ⟨rfl, j, rfl⟩)
    | (go_at_call 136; refine (unhide HW _).mono ?_; rintro e w2 ⟨rfl, F1, F2⟩))
  all_goals
    go_wp2_with fail
    go_ret
    exact ⟨rfl, F1, F2⟩
set_option maxRecDepth 100000 in
set_option maxHeartbeats 1000000 in
theorem tcut_Q (h : Tq lo N W t T B) (hB : B ≤ 880) {n : Int} (hn : (kl n).wf = true) (a : Int) :
    Calls Tryz.prog 78 #[P0 t, I n, I a] W fun e w' => e = .returned (I (cutE (T.pool.get (T.fileOf n)) a)) ∧ Hid (Tq lo N w' t { T with pool := cutS T.pool (T.fileOf n) a } B) ∧ Hid (Tx lo W w') := by
  obtain ⟨⟨q, p, nb, ev, h1⟩, h2⟩ := h
  obtain ⟨c0, c1, c2, c3, cf⟩ := h1.cells
  have hfw : (kl (T.fileOf n)).wf = true := by
    simp only [Tr.fileOf]
    cases hx : T.nd n with
    | none => exact wf_of (by simp)
    | some x => exact wf_of (by have := h2.k.fil n x hx; have := h2.k.made; simp only; omega)
  have HW : Hid (∀ k, Calls Tryz.prog 140 #[P0 p, I (T.fileOf n), I a] (W.drewN k) fun e w' => e = .returned (I (cutE (T.pool.get (T.fileOf n)) a)) ∧ Hid (Tq lo N w' t { T with pool := cutS T.pool (T.fileOf n) a } B) ∧ Hid (Tx lo W w')) := fun k => by
    have hk := h1.below (below_n W k)
    refine (cut_any hk.pl hfw a).mono ?_
    rintro e w' ⟨e1, P1, nx⟩
    obtain ⟨T1, X1⟩ := hk.poolT P1 nx
    exact ⟨e1, ⟨⟨q, p, nb, ev, T1⟩, h2.pool (by rw [cutS_len]; exact h2.k.pol)⟩, (Tx.of_below (below_n W k) h1.bd.2.2.1).trans X1⟩
  have HF : Hid (∀ k, Calls Tryz.prog 137 #[P0 t, I n] (W.drewN k) fun e w' => e = .returned (I (T.fileOf n)) ∧ ∃ j, w' = W.drewN j) := fun k => (file_of (h1.below (below_n W k)) hn).mono fun e w' ⟨e1, j, e2⟩ => ⟨e1, k + j, by rw [e2, drewN_add]⟩
  obtain ⟨fl, hfl⟩ : ∃ fl, fl = T.fileOf n := ⟨_, rfl⟩
  obtain ⟨E, hE⟩ : ∃ E, E = cutE (T.pool.get (T.fileOf n)) a := ⟨_, rfl⟩
  rw [← hE] at HW ⊢
  rw [← hfl] at HW HF ⊢
  clear h1 h2 hfl hE c0 c1 c2 hfw
  go_enter Tryz.func78, Tryz.ntmps78
  go_wp2_with fail
  go_region_with (first
    | (go_at_call 137; refine (unhide HF 1).mono ?_; rintro e w1 ⟨rfl, j, rfl⟩)
    | (go_at_call 140; refine (unhide HW _).mono ?_; rintro e w2 ⟨rfl, F1, F2⟩))
  all_goals
    go_wp2_with fail
    go_ret
    exact ⟨rfl, F1, F2⟩
end
end Go.Proofs.YtlngeaacjbdmhaaGreat
