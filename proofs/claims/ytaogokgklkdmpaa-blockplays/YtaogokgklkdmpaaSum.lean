/-
  BlockSum: what is left and what all files have make the pool.
-/
import Derived.Test.YtaogokgklkdmpaaCuts
import Derived.Deep.CutRange
import Derived.Deep.CutBlock
namespace Go.Proofs.Ytaogokgklkdmpaa
open Go.RowKit Go.Maps

theorem dropS_len (s : S) (f : Int) : (dropS s f).fs.length = s.fs.length := by
  unfold dropS
  cases s.get f <;> simp [S.put]
theorem writeS_len (s : S) (f a : Int) (n : Nat) (g : Nat → Int) : (writeS s f a n g).fs.length = s.fs.length := by
  unfold writeS
  cases s.get f with
  | none => rfl
  | some x => simp only []; split <;> (try rfl); split <;> (try rfl); split <;> (try rfl); split <;> (try rfl); simp [S.put]
theorem cutS_len (s : S) (f z : Int) : (cutS s f z).fs.length = s.fs.length := by
  unfold cutS
  cases s.get f with
  | none => rfl
  | some x => simp only []; split <;> (try rfl); split <;> (try rfl); simp [S.put]
theorem total_take (l : List (Option F)) (j : Nat) (o : Option F) (h : l[j]? = some o) : total (l.take (j + 1)) = total (l.take j) + usedO o := by
  rw [List.take_add_one, h]
  simp [total_append]
theorem get_nat {s : S} {j : Nat} {o : Option F} (h : s.fs[j]? = some o) : s.get ((j : Int) + 1) = o := by
  simp only [S.get]
  rw [if_pos (by omega), show ((j : Int) + 1).toNat - 1 = j by omega, h]
  cases o <;> rfl
theorem used_size {x : F} (h : x.Ok) : x.used * 16 ≤ x.size + 15 := by
  have h1 : x.used ≤ cnt 64 (fun k => decide (k < (x.size + 15) / 16)) := cnt_mono fun k _ hk => by
    have := h.inn k hk
    simp
    omega
  rw [cnt_lt] at h1
  omega
theorem Pl.ok {base n : Nat} {W : World} {p : Nat} {s : S} (h : Pl base n W p s) {f : Int} {x : F} (hx : s.get f = some x) : x.Ok := let ⟨_, _, _, h⟩ := h; (h.hx f x hx).ok
theorem Pl.tot {base n : Nat} {W : World} {p : Nat} {s : S} (h : Pl base n W p s) : s.left + total s.fs = n := let ⟨_, _, _, h⟩ := h; h.tot
theorem Pl.nn {base n : Nat} {W : World} {p : Nat} {s : S} (h : Pl base n W p s) : n ≤ 256 := let ⟨_, _, _, h⟩ := h; h.nn
theorem usedO_size {base n : Nat} {W : World} {p : Nat} {s : S} (h : Pl base n W p s) (f : Int) : usedO (s.get f) * 16 ≤ sizeO (s.get f) + 15 ∧ usedO (s.get f) ≤ 64 ∧ sizeO (s.get f) ≤ 1024 := by
  cases e : s.get f with
  | none => simp [usedO, sizeO]
  | some x => exact ⟨used_size (h.ok e), cnt_le _ _, (h.ok e).most⟩
/-- The call that is made, and the pool. -/
structure SumW (base n : Nat) (u W : World) (p : Nat) (s : S) (xb : Nat) (kd f a z : Int) (ba : Option Addr) (m bc : Nat) (g : Nat → Int) : Prop where
  P : Pl base n W p s
  B : Below base u W
  hx : W.heap[xb]? = some (.cells #[I kd, I f, I a, I z, .slice ba m bc] 39)
  hi : In u ba m bc g
section
variable {base n : Nat} {u W : World} {p : Nat} {s : S} {xb : Nat} {kd f a z : Int} {ba : Option Addr} {m bc : Nat} {g : Nat → Int}
theorem SumW.cells (h : SumW base n u W p s xb kd f a z ba m bc g) : W.cell? ⟨xb, 0, none⟩ = some (I kd) ∧ W.cell? ⟨xb, 1, none⟩ = some (I f) ∧ W.cell? ⟨xb, 2, none⟩ = some (I a) ∧ W.cell? ⟨xb, 3, none⟩ = some (I z) ∧ W.cell? ⟨xb, 4, none⟩ = some (.slice ba m bc) ∧ ∀ i, W.frozen? ⟨xb, i, none⟩ = false := by
  refine ⟨?_, ?_, ?_, ?_, ?_, frozen_of h.hx⟩ <;> rw [cell_of h.hx] <;> rfl
theorem SumW.cut (h : SumW base n u W p s xb kd f a z ba m bc g) {m' : Nat} (hm : m' ≤ m) (hb : base ≤ xb) : SumW base n u (W.setCell ⟨xb, 4, none⟩ (.slice ba m' bc)) p s xb kd f a z ba m' bc g := by
  refine ⟨h.P.keep (by simp [World.setCell]) ?_ ?_, h.B.trans ((Below.refl base W).setCell (by exact hb) _), ?_, h.hi.take hm⟩
  · intro b es k e
    exact Below.heap_setCell _ _ _ _ (fun e2 => by rw [show b = xb from e2, h.hx] at e; cases e)
  · intro b cs t fz e ht
    exact Below.heap_setCell _ _ _ _ (fun e2 => by rw [show b = xb from e2, h.hx] at e; cases e; rcases ht with ht | ht <;> cases ht)
  · rw [heap_set h.hx]
    rfl
theorem SumW.nx (h : SumW base n u W p s xb kd f a z ba m bc g) {W' : World} {s' : S} (hP : Pl base n W' p s') (hN : Nx base W W') : SumW base n u W' p s' xb kd f a z ba m bc g :=
  ⟨hP, h.B.trans hN.bel, hN.oth _ _ _ _ h.hx (by decide) (by decide), h.hi⟩
end
set_option maxRecDepth 100000 in
set_option maxHeartbeats 2000000 in
theorem sum_walk (a0 : Int) (a1 : Option Addr) (len1 cap1 : Nat) (w : World) (h1 : AsksAt w a1 len1) :
    Calls Try.prog 6 #[I a0, .slice a1 len1 cap1] w fun e w' => e = .returned (.bool true) ∧ Below w.heap.size w w' := by
  have hl1 := h1.1
  have H1 := hide h1
  clear h1
  go_enter Try.func6, Try.ntmps6
  go_wp2_with fail
  refine (within_any _ _ _ (by omega) (by omega)).mono ?_
  rintro e w1 ⟨⟨n, hn, rfl⟩, rfl⟩
  go_wp2_with fail
  refine (new_Z _ n rfl (by omega) _).mono ?_
  rintro e w2 ⟨p, rfl, P, B⟩
  go_wp2_with fail
  go_loopw [7, 8] (fun v i wr => ∃ (k : Nat) (s : S), k ≤ 60 ∧ i = I (k : Int) ∧ v = I (s.fs.length : Int) ∧ s.fs.length ≤ 6 ∧ Hid (Pl w1.heap.size n wr p s) ∧ Hid (Below w1.heap.size w1 wr)) (fun _ i _ => 60 - (intOf i).toNat)
  case atStart => exact ⟨0, ⟨n, []⟩, by omega, rfl, rfl, by simp, P, B⟩
  case round =>
    obtain ⟨k, s, hk, rfl, rfl, hs6, Pr, Br⟩ := hrel
    clear P B
    by_cases hg : k < len1 ∧ k < 60
    · obtain ⟨g1, g2⟩ := hg
      have z1 : (k : Int) < (len1 : Int) := by omega
      have z2 : (k : Int) < 60 := by omega
      have z0 : (0 : Int) ≤ (k : Int) := by omega
      obtain ⟨b, off, kd, f, a, z, ba, bn, bc, rfl, hbb, hA⟩ := (unhide H1).2 k g1
      have hA2 := hA.below (unhide Br)
      obtain ⟨b1, b2, b3, gg, hI⟩ := hA.hb
      have c0 := hA2.c0
      have c1 := hA2.c1
      have c2 := hA2.c2
      have c3 := hA2.c3
      have c4 := hA2.c4
      have HW0 := hide hA2.wa
      have HWz := hide hA2.wn
      have hX : SumW w1.heap.size n w1 (wr.alloc (.cells #[I kd, I f, I a, I z, .slice ba bn bc] 39)) p s wr.heap.size kd f a z ba bn bc gg := by
        have hK := (Below.refl wr.heap.size wr).alloc (Nat.le_refl _) (.cells #[I kd, I f, I a, I z, .slice ba bn bc] 39)
        exact ⟨(unhide Pr).below hK, (unhide Br).trans (hK.mono (unhide Pr).bs), heap_alloc_new _ _, hI⟩
      obtain ⟨x0, x1, x2, x3, x4, xf⟩ := hX.cells
      have HX := hide hX
      clear hA hA2 hX hI hbb
      have hxb0 : w1.heap.size ≤ wr.heap.size := (unhide Pr).bs
      go_upto_if 43 with fail
      obtain ⟨w3, hw3⟩ : ∃ x, x = wr.alloc (.cells #[I kd, I f, I a, I z, .slice ba bn bc] 39) := ⟨_, rfl⟩
      obtain ⟨xb, hxb⟩ : ∃ x, x = wr.heap.size := ⟨_, rfl⟩
      rw [← hw3, ← hxb] at x0 x1 x2 x3 x4 HX
      rw [← hw3] at xf
      rw [← hxb] at xf hxb0
      rw [show wr.alloc (Obj.cells #[Value.int IntKind.i64 kd, Value.int IntKind.i64 f, Value.int IntKind.i64 a, Value.int IntKind.i64 z, Value.slice ba bn bc] 39) = w3 from hw3.symm, ← hxb]
      clear hw3 hxb c0 c1 c2 c3 c4
      go_cut [] from 26 to 125 (fun wd => ∃ m : Nat, m ≤ 200 ∧ m ≤ bn ∧ Hid (SumW w1.heap.size n w1 wd p s xb kd f a z ba m bc gg))
      case first =>
        by_cases hl : 200 < bn
        · have q1 : (200 : Int) < (bn : Int) := by omega
          have q2 : (200 : Int) ≤ (bc : Int) := by omega
          go_wp2_with fail
          go_meet
          case rel => exact ⟨200, by omega, by omega, hide ((unhide HX).cut (by omega) hxb0)⟩
        · have q1 : ¬ (200 : Int) < (bn : Int) := by omega
          go_wp2_with fail
          go_meet
          case rel => exact ⟨bn, by omega, by omega, HX⟩
      case rest =>
      obtain ⟨m, hm2, hmb, HX4⟩ := hcut
      clear HX x0 x1 x2 x3 x4 xf
      obtain ⟨w4, hw4⟩ : ∃ x, x = wc := ⟨_, rfl⟩
      subst hw4
      obtain ⟨x0, x1, x2, x3, x4, xf⟩ := (unhide HX4).cells
      obtain ⟨L, hL⟩ : ∃ L : Nat, L = s.fs.length := ⟨_, rfl⟩
      rw [← hL] at hs6 ⊢
      replace hL := hide hL
      go_upto_region 12 with fail
      go_cut [58] from 26 to 125 (fun v wd => v = .bool (decide (L = 0 ∨ (kd = 1 ∧ L < 6))) ∧ wd = w4)
      case first =>
        by_cases q1 : L = 0
        · have q2 : ((L : Int) == 0) = true := by simp; omega
          replace q1 := hide q1
          go_wp2_with fail
          go_meet
          case rel =>
            rw [decide_eq_true (.inl (unhide q1))]
            exact ⟨rfl, rfl⟩
        · have q2 : ((L : Int) == 0) = false := by simp; omega
          replace q1 := hide q1
          by_cases q3 : kd = 1
          · have q4 : (kd == 1) = true := by simp [q3]
            replace q3 := hide q3
            by_cases q5 : L < 6
            · have q6 : (L : Int) < 6 := by omega
              go_wp2_with fail
              go_meet
              case rel =>
                rw [decide_eq_true (.inr ⟨unhide q3, q5⟩)]
                exact ⟨rfl, rfl⟩
            · have q6 : ¬ (L : Int) < 6 := by omega
              go_wp2_with fail
              go_meet
              case rel =>
                rw [decide_eq_false (fun h => h.elim (unhide q1) fun h => q5 h.2)]
                exact ⟨rfl, rfl⟩
          · have q4 : (kd == 1) = false := by simp [q3]
            replace q3 := hide q3
            go_wp2_with fail
            go_meet
            case rel =>
              rw [decide_eq_false (fun h => h.elim (unhide q1) fun h => unhide q3 h.1)]
              exact ⟨rfl, rfl⟩
      case rest =>
      obtain ⟨rfl, rfl⟩ := hcut
      obtain ⟨w4, hw4⟩ : ∃ x, x = wc := ⟨_, rfl⟩
      subst hw4
      go_upto_if 58 with fail
      go_cut [7] from 26 to 125 (fun v wd => ∃ (s' : S) (M : Nat), v = I (M : Int) ∧ 1 ≤ M ∧ M ≤ 6 ∧ s'.fs.length = M ∧ Hid (SumW w1.heap.size n w1 wd p s' xb kd f a z ba m bc gg))
      case first =>
        by_cases q1 : L = 0 ∨ (kd = 1 ∧ L < 6)
        · rw [decide_eq_true q1]
          have q5 : L < 6 := q1.elim (fun h => by omega) (fun h => h.2)
          clear q1
          go_wp2_with fail
          refine (file_Z (hide (unhide HX4).P) ((L : Int) + 1) (by rw [← unhide hL]; omega) (by rw [← unhide hL]; omega) (hide (unhide HX4).B)).mono ?_
          rintro e w5 ⟨rfl, P5, N5, _⟩
          go_wp2_with fail
          go_meet
          case rel =>
            refine ⟨s.add, L + 1, rfl, by omega, by omega, ?_, hide ((unhide HX4).nx (unhide P5) (unhide N5))⟩
            rw [unhide hL]
            simp [S.add]
        · rw [decide_eq_false q1]
          have q5 : 1 ≤ L := by
            by_cases h : L = 0
            · exact absurd (.inl h) q1
            · omega
          clear q1
          go_wp2_with fail
          go_meet
          case rel => exact ⟨s, L, rfl, q5, hs6, (unhide hL).symm, HX4⟩
      case rest =>
      obtain ⟨s', M, rfl, hM1, hM6, hsM, HX5⟩ := hcut
      clear HX4 x0 x1 x2 x3 x4 xf Pr Br hL hs6 L
      replace hsM := hide hsM
      obtain ⟨w5, hw5⟩ : ∃ x, x = wc := ⟨_, rfl⟩
      subst hw5
      obtain ⟨x0, x1, x2, x3, x4, xf⟩ := (unhide HX5).cells
      have m1 : (1 : Int) ≤ (M : Int) := by omega
      have m6 : (M : Int) ≤ 6 := by omega
      go_wp2_with fail
      refine (within_any _ _ _ (by omega) (by omega)).mono ?_
      rintro e w6 ⟨⟨r, hr, rfl⟩, rfl⟩
      have r1 : (r : Int) ≤ 6 := by omega
      have wf1 : (kl (1 + (r : Int))).wf = true := wf_of (by omega)
      replace wf1 := hide wf1
      go_upto_block 2 with fail
      go_cut [] from 26 to 125 (fun wd => ∃ t : S, t.fs.length = M ∧ Hid (Pl w1.heap.size n wd p t) ∧ Hid (Below w1.heap.size w1 wd))
      case first =>
        by_cases k4 : kd = 4
        · have q4 : (kd == 4) = true := by simp [k4]
          replace k4 := hide k4
          go_wp2_with fail
          refine (write_Z (hide (unhide HX5).P) (1 + (r : Int)) (unhide wf1) a (unhide HW0) ba m bc gg ((unhide HX5).hi.base rfl (unhide HX5).B) _ rfl (hide (unhide HX5).B)).mono ?_
          rintro e w7 ⟨rfl, P7, N7, B7⟩
          go_wp2_with fail
          go_meet
          case rel => exact ⟨_, by rw [writeS_len]; exact unhide hsM, P7, B7⟩
        · have q4 : (kd == 4) = false := by simp [k4]
          replace k4 := hide k4
          by_cases k5 : kd = 5
          · have q5 : (kd == 5) = true := by simp [k5]
            replace k5 := hide k5
            go_wp2_with fail
            refine (cut_Z (hide (unhide HX5).P) (1 + (r : Int)) (unhide wf1) z _ rfl (hide (unhide HX5).B)).mono ?_
            rintro e w7 ⟨rfl, P7, N7, B7⟩
            go_wp2_with fail
            go_meet
            case rel => exact ⟨_, by rw [cutS_len]; exact unhide hsM, P7, B7⟩
          · have q5 : (kd == 5) = false := by simp [k5]
            replace k5 := hide k5
            by_cases k2 : kd = 2
            · have q2 : (kd == 2) = true := by simp [k2]
              replace k2 := hide k2
              go_wp2_with fail
              refine (drop_Z (hide (unhide HX5).P) (1 + (r : Int)) (unhide wf1) _ rfl (hide (unhide HX5).B)).mono ?_
              rintro e w7 ⟨rfl, P7, N7, B7⟩
              go_wp2_with fail
              go_meet
              case rel => exact ⟨_, by rw [dropS_len]; exact unhide hsM, P7, B7⟩
            · have q2 : (kd == 2) = false := by simp [k2]
              replace k2 := hide k2
              go_wp2_with fail
              go_meet
              case rel => exact ⟨s', unhide hsM, hide (unhide HX5).P, hide (unhide HX5).B⟩
      case rest =>
      obtain ⟨t, htM, P7, B7⟩ := hcut
      clear HX5 x0 x1 x2 x3 x4 xf hsM
      replace htM := hide htM
      obtain ⟨w7, hw7⟩ : ∃ x, x = wc := ⟨_, rfl⟩
      subst hw7
      obtain ⟨l, hl⟩ : ∃ l : Nat, l = t.left := ⟨_, rfl⟩
      have hn40 : n ≤ 40 := by omega
      have hl40 : l ≤ 40 := by have := (unhide P7).tot; omega
      have l40 : (l : Int) ≤ 40 := by omega
      replace hl := hide hl
      go_wp2_with fail
      refine (left_Z P7 (l : Int) (by rw [unhide hl])).mono ?_
      rintro e w8 ⟨rfl, rfl⟩
      go_wp2_with fail
      go_loopw [11, 12] (fun v i wq => ∃ (q y : Nat), 1 ≤ q ∧ q ≤ M + 1 ∧ i = I (q : Int) ∧ v = I (y : Int) ∧ Hid (y = l + total (t.fs.take (q - 1))) ∧ y ≤ 40 + 64 * q ∧ wq = w8) (fun _ i _ => M + 1 - (intOf i).toNat)
      case atStart => exact ⟨1, l, by omega, by omega, rfl, rfl, hide (by simp [total]), by omega, rfl⟩
      case round =>
        obtain ⟨q, y, hq1, hq2, rfl, rfl, hy, hy2, rfl⟩ := hrel
        by_cases hjM : q ≤ M
        · have j1 : (q : Int) ≤ (M : Int) := by omega
          obtain ⟨u, hu⟩ : ∃ u : Nat, u = usedO (t.get (q : Int)) := ⟨_, rfl⟩
          obtain ⟨zz, hzz⟩ : ∃ zz : Nat, zz = sizeO (t.get (q : Int)) := ⟨_, rfl⟩
          have hb := usedO_size (unhide P7) (q : Int)
          rw [← hu, ← hzz] at hb
          obtain ⟨hb1, hb2, hb3⟩ := hb
          have u4 : ¬ ((zz : Int) + 16 - 1 < (u : Int) * 16) := by omega
          have u2 : (u : Int) ≤ 64 := by omega
          have u3 : (zz : Int) ≤ 1024 := by omega
          have y1 : (y : Int) ≤ 500 := by omega
          have jj : (q : Int) ≤ 7 := by omega
          have wfj : (kl (q : Int)).wf = true := wf_of (by omega)
          replace wfj := hide wfj
          replace hu := hide hu
          replace hzz := hide hzz
          clear hb1
          go_wp2_with fail
          refine (used_Z P7 _ (unhide wfj) (u : Int) (by rw [unhide hu])).mono ?_
          rintro e w9 ⟨rfl, rfl⟩
          go_wp2_with fail
          refine (used_Z P7 _ (unhide wfj) (u : Int) (by rw [unhide hu])).mono ?_
          rintro e w10 ⟨rfl, rfl⟩
          go_wp2_with fail
          refine (size_Z P7 _ (unhide wfj) (zz : Int) (by rw [unhide hzz])).mono ?_
          rintro e w11 ⟨rfl, rfl⟩
          go_wp2_with fail
          refine (used_Z P7 _ (unhide wfj) (u : Int) (by rw [unhide hu])).mono ?_
          rintro e w12 ⟨rfl, rfl⟩
          clear u4
          go_wp2_with fail
          obtain ⟨j, rfl⟩ : ∃ j, q = j + 1 := ⟨q - 1, by omega⟩
          obtain ⟨o, ho⟩ : ∃ o, t.fs[j]? = some o := ⟨_, List.getElem?_eq_getElem (by rw [unhide htM]; omega)⟩
          refine ⟨⟨j + 1 + 1, y + u, by omega, by omega, rfl, rfl, hide ?_, by omega, trivial⟩, by simp [intOf]; omega⟩
          have e1 := unhide hu
          rw [show (((j + 1 : Nat) : Nat) : Int) = (j : Int) + 1 by omega, get_nat ho] at e1
          rw [show j + 1 + 1 - 1 = j + 1 by omega, total_take _ _ _ ho, unhide hy, e1, show j + 1 - 1 = j by omega]
          omega
        · obtain rfl : q = M + 1 := by omega
          have j1 : ¬ ((M + 1 : Nat) : Int) ≤ (M : Int) := by omega
          have hyn : y = n := by
            rw [unhide hy, unhide hl, List.take_of_length_le (by rw [unhide htM]; omega)]
            exact (unhide P7).tot
          have e1 : ((y : Int) != (n : Int)) = false := by simp [hyn]
          replace hyn := hide hyn
          go_wp2_with fail
          refine (left_Z P7 (l : Int) (by rw [unhide hl])).mono ?_
          rintro e w9 ⟨rfl, rfl⟩
          go_wp2_with fail
          refine ⟨⟨k + 1, t, by omega, rfl, by rw [unhide htM], by rw [unhide htM]; exact hM6, P7, B7⟩, by simp [intOf]; omega⟩
    · have hfin : (k < len1 ∧ ¬ k < 60) ∨ ¬ k < len1 := by omega
      have hend : ∀ w' : World, Below wr.heap.size wr w' → Below w1.heap.size w1 w' := fun w' h => (unhide Br).trans (h.mono (unhide Pr).bs)
      replace hend := hide hend
      rcases hfin with ⟨q1, q2⟩ | q1
      · have z1 : (k : Int) < (len1 : Int) := by omega
        have z2 : ¬ (k : Int) < 60 := by omega
        go_wp2_with fail
        refine (known_any _).mono ?_
        rintro e w9 ⟨rfl, K9⟩
        go_wp2_with fail
        go_ret
        exact ⟨rfl, unhide hend _ K9⟩
      · have z1 : ¬ (k : Int) < (len1 : Int) := by omega
        go_wp2_with fail
        refine (known_any _).mono ?_
        rintro e w9 ⟨rfl, K9⟩
        go_wp2_with fail
        go_ret
        exact ⟨rfl, unhide hend _ K9⟩
end Go.Proofs.Ytaogokgklkdmpaa
