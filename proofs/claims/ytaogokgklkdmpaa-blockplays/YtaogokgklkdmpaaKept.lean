/-
  BlockKept: what is read is new memory; what was handed in is not kept.
-/
import Derived.Test.YtaogokgklkdmpaaWithin
import Derived.Maps.AppendAt
import Derived.Deep.Cut
namespace Go.Proofs.Ytaogokgklkdmpaa
open Go.RowKit Go.Maps

theorem wpList_append_eq {P : Program} {w : World} {ops : Array Oper} {rest : List Oper} {o : Oper} {a : Act} {Q : Exit → Act → World → Prop} (hgd : o.guard = none) (s x : Operand) (t : TypeId)
    (ho : o.op = .call { callee := .builtin .append, args := #[s, x], argTypes := #[t, t] }) (ty : TypeId) (hty : o.type = ty) (vs vx : Value) (hs : a.eval s = vs) (hx : a.eval x = vx) (v' : Value) (w' : World)
    (hrun : (Builtin.append_ #[t, t] ty #[vs, vx]).run P w = .ok v' w') (h : wpList P ops Q rest (a.put o.dst v') w') : wpList P ops Q (o :: rest) a w := by
  refine wpList_plain hgd fun K hK => ?_
  unfold Oper.wp execOp
  simp only [ho, resolve, invoke, builtin, Sem.run_bind, Sem.run_pure, Result.andThen_ok, List.map_toArray, List.map_cons, List.map_nil, hs, hx, hty, hrun]
  exact hK _ _ h
theorem Bs.vac (W : World) (sb so : Nat) (g : Nat → Int) : Bs W sb so 0 g := fun j hj => absurd hj (by omega)
theorem conv_in {W : World} {a : Option Addr} {n cap : Nat} {g : Nat → Int} (h : In W a n cap g) : (convert 28 9 (.slice a n cap)).run Try.prog W = .ok (.string (str g 0 n)) W := by
  by_cases hn : n = 0
  · subst hn
    cases a with
    | none => exact conv_nil _ _ _
    | some ad =>
      rw [run_convert_bytes_string W 28 9 5 (some ad) 0 cap Try.underlying28 Try.underlying5 Try.underlying9, run_bytesToString W ad 0 cap [] rfl]
      rfl
  · obtain ⟨sb, so, rfl, hb, _⟩ := h (by omega)
    exact conv_bs hb cap
/-- A row of bytes, whatever they are. -/
def Rw (W : World) (g c n : Nat) : Prop := ∃ cur : Array Value, W.heap[g]? = some (.cells cur 5) ∧ cur.size = c ∧ n ≤ c ∧ ∀ j, j < n → ∃ y : Int, cur[j]? = some (U y)
theorem Rw.cell {W : World} {g c n : Nat} (h : Rw W g c n) {j : Nat} (hj : j < n) : (∃ y : Int, W.cell? ⟨g, j, none⟩ = some (U y)) ∧ W.frozen? ⟨g, j, none⟩ = false := by
  obtain ⟨cur, h1, h2, h3, h4⟩ := h
  obtain ⟨y, hy⟩ := h4 j hj
  exact ⟨⟨y, by rw [cell_of h1]; exact hy⟩, frozen_of h1 _⟩
theorem Rw.set {W : World} {g c n : Nat} (h : Rw W g c n) (j : Nat) (y : Int) : Rw (W.setCell ⟨g, j, none⟩ (U y)) g c n := by
  obtain ⟨cur, h1, h2, h3, h4⟩ := h
  refine ⟨cur.setIfInBounds j (U y), heap_set h1 _ _, by simpa using h2, h3, fun i hi => ?_⟩
  by_cases e : j = i
  · subst e
    exact ⟨y, by rw [Array.getElem?_setIfInBounds_self_of_lt (by omega)]⟩
  · obtain ⟨y', hy'⟩ := h4 i hi
    exact ⟨y', by rw [Array.getElem?_setIfInBounds_ne e]; exact hy'⟩
theorem Rw.of_row {W : World} {g : Nat} {f : Nat → Int} {a m : Nat} (h : W.heap[g]? = some (.cells (lst f a m).toArray 5)) : Rw W g m m :=
  ⟨_, h, by simp [lst_length], Nat.le_refl _, fun j hj => ⟨f (a + j), by simp only [List.getElem?_toArray]; exact lst_get' hj⟩⟩
theorem Rw.below {W W' : World} {g c n : Nat} (h : Rw W g c n) (k : Below W.heap.size W W') : Rw W' g c n := by
  obtain ⟨cur, h1, h2⟩ := h
  exact ⟨cur, (k.block g (lt_of_heap h1)).trans h1, h2⟩
theorem Pl.set5 {base n : Nat} {W : World} {p : Nat} {s : S} (h : Pl base n W p s) {g c m : Nat} (hr : Rw W g c m) (j : Nat) (v : Value) : Pl base n (W.setCell ⟨g, j, none⟩ v) p s := by
  obtain ⟨cur, h1, _⟩ := hr
  refine h.keep (by simp [World.setCell]) ?_ ?_
  · intro b es k e
    exact Below.heap_setCell _ _ _ _ (fun e2 => by rw [show b = g from e2, h1] at e; cases e)
  · intro b cs t fz e ht
    exact Below.heap_setCell _ _ _ _ (fun e2 => by rw [show b = g from e2, h1] at e; cases e; rcases ht with ht | ht <;> cases ht)
theorem build0 (w : World) : (Instr.buildSlice 28 0 #[]).run Try.prog w = .ok (.slice (some ⟨w.heap.size, 0, none⟩) 0 0) (w.alloc (.cells #[] 5)) := by
  obtain ⟨i0, hi, hz0, hz1, hz2⟩ := info_parts info5
  have h1 : Try.prog.underlying 28 = some (.slice 5) := Try.underlying28
  simp [Instr.buildSlice, run_underlying h1, sizeOf, typeInfo, hi, Instr.fill, newRow, Array.range_zero']
/-- Bytes behind an empty slice of our own: in a row of their own. -/
theorem app_in {w : World} {a : Option Addr} {n cap : Nat} {g : Nat → Int} (h : In (w.alloc (.cells #[] 5)) a n cap g) (hn : n ≤ 100000) : ∃ gm c w', (Builtin.append_ #[28, 28] 28 #[.slice (some ⟨w.heap.size, 0, none⟩) 0 0, .slice a n cap]).run Try.prog (w.alloc (.cells #[] 5)) = .ok (.slice (some ⟨gm, 0, none⟩) n c) w' ∧ w.heap.size ≤ gm ∧ Rw w' gm c n ∧ In w' (some ⟨gm, 0, none⟩) n c g ∧ Below w.heap.size w w' := by
  obtain ⟨i0, hi, hz0, hz1, hz2⟩ := info_parts info5
  have h28 : Try.prog.underlying 28 = some (.slice 5) := Try.underlying28
  have hown : (w.alloc (.cells #[] 5)).ownsRow w.heap.size 5 1 (.slice (some ⟨w.heap.size, 0, none⟩) 0 0) 0 [] := World.ownsRow_lit w #[] 0 (Nat.le_refl _) (Nat.zero_le _) (by simp)
  have key : ∀ v' w', (Builtin.append_ #[28, 28] 28 #[.slice (some ⟨w.heap.size, 0, none⟩) 0 0, .slice a n cap]).run Try.prog (w.alloc (.cells #[] 5)) = .ok v' w' → w'.ownsRow w.heap.size 5 1 v' n (lst g 0 n) → (w.alloc (.cells #[] 5)).grownBy w' (some w.heap.size) → v' ≠ .slice none 0 0 →
      ∃ gm c w', (Builtin.append_ #[28, 28] 28 #[.slice (some ⟨w.heap.size, 0, none⟩) 0 0, .slice a n cap]).run Try.prog (w.alloc (.cells #[] 5)) = .ok (.slice (some ⟨gm, 0, none⟩) n c) w' ∧ w.heap.size ≤ gm ∧ Rw w' gm c n ∧ In w' (some ⟨gm, 0, none⟩) n c g ∧ Below w.heap.size w w' := by
    intro v' w' hr ho hg hne
    rcases ho.2 with ⟨h1, _⟩ | ⟨gm, c, cur, rfl, h1, h2, h3, _, h5, h6⟩
    · exact absurd h1 hne
    · have hcur : ∀ j, j < n → cur[j]? = some (U (g j)) := fun j hj => by
        have e := congrArg (fun l => l[j]?) h6
        simp only [List.getElem?_take, Nat.mul_one, if_pos hj] at e
        rw [lst_get' hj, Nat.zero_add] at e
        simpa using e
      refine ⟨gm, c, w', hr, h1, ⟨cur, h2, by simpa using h5, h3, fun j hj => ⟨g j, hcur j hj⟩⟩, fun _ => ⟨gm, 0, rfl, fun j hj => by rw [cell_of h2, Nat.zero_add]; exact hcur j hj, h3⟩, ?_⟩
      exact ⟨hg.os, hg.tape, hg.output, Nat.le_trans (by simp) hg.size, fun k hk => (hg.block k (by simp; omega) (by simp; omega)).trans (Below.heap_alloc _ _ _ hk)⟩
  by_cases h0 : n = 0
  · subst h0
    refine key (.slice (some ⟨w.heap.size, 0, none⟩) 0 0) _ ?_ hown (World.grownBy.refl _ _) (by simp)
    cases a with
    | none => simp [Builtin.append_, run_underlying h28, sizeOf, typeInfo, hi, Builtin.lenOf, Builtin.firstCells, storeCells]
    | some ad => simp [Builtin.append_, run_underlying h28, sizeOf, typeInfo, hi, Builtin.lenOf, Builtin.firstCells, storeCells, loadCells, loadCellsFrom]
  · obtain ⟨sb, so, rfl, hb, _⟩ := h (by omega)
    obtain ⟨v', w', hr, ho, hg, hne, _⟩ := run_append_own_at (P := Try.prog) (w.alloc (.cells #[] 5)) w.heap.size 28 28 5 i0 (U 0) 1 1 h28 hi hz0 hz1 hz2 rfl (by decide) _ 0 [] hown ⟨sb, so, none⟩ n cap (lst g 0 n) (by simp [lst_length]) (row_src hb) (lst_one _ _ _) (by unfold maxLen; omega) (by omega) (by simp)
    refine key v' w' hr (by simpa using ho) hg (fun e => ?_)
    have := (hne.1 e).1
    simp at this
set_option maxRecDepth 100000 in
set_option maxHeartbeats 2000000 in
theorem kept_walk (a0 : Option Addr) (len0 cap0 : Nat) (w : World) (h0 : BytesAt w a0 len0 cap0) :
    Calls Try.prog 7 #[.slice a0 len0 cap0] w fun e w' => e = .returned (.bool true) ∧ Below w.heap.size w w' := by
  obtain ⟨l0, lc0, lm0, g0, H0⟩ := h0
  replace H0 := hide H0
  go_enter Try.func7, Try.ntmps7
  go_wp2_with fail
  refine (new_Z _ 256 rfl (by omega) _).mono ?_
  rintro e w1 ⟨p, rfl, P, B⟩
  go_upto_if 24 with fail
  go_cut [0] from 12 (fun v wc => ∃ (n : Nat), n ≤ 500 ∧ n ≤ len0 ∧ v = .slice a0 n cap0 ∧ wc = w1)
  case first =>
    by_cases hl : 500 < len0
    · have q1 : (500 : Int) < (len0 : Int) := by omega
      have q2 : (500 : Int) ≤ (cap0 : Int) := by omega
      go_wp2_with fail
      go_meet
      case rel => exact ⟨500, by omega, by omega, rfl, rfl⟩
    · have q1 : ¬ (500 : Int) < (len0 : Int) := by omega
      go_wp2_with fail
      go_meet
      case rel => exact ⟨len0, by omega, by omega, rfl, rfl⟩
  case rest =>
  obtain ⟨n0, hn0, hm0, rfl, rfl⟩ := hcut
  obtain ⟨w1, hw1⟩ : ∃ x, x = wc := ⟨_, rfl⟩
  subst hw1
  have I0 := hide ((unhide H0).take hm0)
  clear H0
  have hbu := build0
  have hK1 : Below w1.heap.size w1 (w1.alloc (.cells #[] 5)) := (Below.refl _ _).alloc (Nat.le_refl _) _
  obtain ⟨gm, c, w2, hrun, hgm, R2, I2, K2⟩ := app_in ((((unhide I0).base rfl (unhide B))).below hK1) (by omega)
  have hgb : w.heap.size ≤ gm := Nat.le_trans (unhide P).bs hgm
  have P2 := hide ((unhide P).below K2)
  have B2 := hide ((unhide B).trans (K2.mono (unhide P).bs))
  replace R2 := hide R2
  replace I2 := hide I2
  clear P B K2 hK1 hgm
  go_wp2_with (first | (at_builtin; refine wpList_append_eq rfl _ _ 28 rfl 28 rfl _ _ rfl rfl _ _ hrun ?_) | fail)
  refine (file_Z (s := ⟨256, []⟩) P2 1 rfl (by decide) B2).mono ?_
  rintro e w3 ⟨rfl, P3, N3, B3⟩
  obtain ⟨e1, y1, hy1, hb1, hs1, _, _⟩ := write_good (add_get 256) 0 n0 g0 (by omega) (by decide)
  have keepR : ∀ (u v : World), Nx w.heap.size u v → Rw u gm c n0 → Rw v gm c n0 := fun u v hN hR => by
    obtain ⟨cur, h1, h2⟩ := hR
    exact ⟨cur, hN.oth _ _ _ _ h1 (by decide) (by decide), h2⟩
  have keepI : ∀ {u v : World}, Nx w.heap.size u v → Rw u gm c n0 → In u (some ⟨gm, 0, none⟩) n0 c g0 → In v (some ⟨gm, 0, none⟩) n0 c g0 := fun {u v} hN hR hI h0 => by
    obtain ⟨sb, so, e, hbs, hc⟩ := hI h0
    obtain ⟨cur, h1, _⟩ := hR
    cases e
    exact ⟨gm, 0, rfl, fun j hj => (cell_same ((hN.oth _ _ _ _ h1 (by decide) (by decide)).trans h1.symm) _).trans (hbs j hj), hc⟩
  have R3 := hide (keepR _ _ (unhide N3) (unhide R2))
  have I3 := hide (keepI (unhide N3) (unhide R2) (unhide I2))
  clear R2 I2 P2 B2 hrun hbu keepI
  have KR := hide keepR
  clear keepR
  go_wp2_with fail
  refine (write_Z (s := (⟨256, []⟩ : S).add) P3 1 (by decide) 0 (by decide) (some ⟨gm, 0, none⟩) n0 c g0 (unhide I3) 0 e1 B3).mono ?_
  rintro e w4 ⟨rfl, P4, N4, B4⟩
  have R4 := hide (unhide KR _ _ (unhide N4) (unhide R3))
  obtain ⟨s5, hs5⟩ : ∃ s5, s5 = writeS (⟨256, []⟩ : S).add 1 ((0 : Nat) : Int) n0 g0 := ⟨_, rfl⟩
  rw [← hs5] at hy1
  rw [show writeS (⟨256, []⟩ : S).add 1 0 n0 g0 = s5 from hs5.symm] at P4
  have hz : y1.size = n0 := by
    rw [hs1]
    split
    · rename_i h; rw [h]; rfl
    · simp [F.empty]
  have Y1 := hide hy1
  have HB1 := hide hb1
  have HZ := hide hz
  clear hy1 hb1 hz hs1 hs5 e1 R3 I3 P3 B3 KR N3 N4
  go_wp2_with fail
  go_loopw [7] (fun i wr => ∃ k : Nat, k ≤ n0 ∧ i = I (k : Int) ∧ Hid (Rw wr gm c n0) ∧ Hid (Pl w.heap.size 256 wr p s5) ∧ Hid (Below w.heap.size w wr)) (fun i _ => n0 - (intOf i).toNat)
  case atStart => exact ⟨0, by omega, rfl, R4, P4, B4⟩
  case round =>
    obtain ⟨k, hk, rfl, R, P, B⟩ := hrel
    clear R4 P4 B4
    by_cases hkn : k < n0
    · have z1 : (k : Int) < (n0 : Int) := by omega
      have z0 : (0 : Int) ≤ (k : Int) := by omega
      obtain ⟨⟨y, hc⟩, hf⟩ := (unhide R).cell hkn
      go_wp2_with fail
      exact ⟨⟨k + 1, by omega, rfl, hide ((unhide R).set _ _), hide ((unhide P).set5 (unhide R) _ _), hide ((unhide B).trans ((Below.refl _ _).setCell (by exact hgb) _))⟩, by simp [intOf]; omega⟩
    · have z1 : ¬ (k : Int) < (n0 : Int) := by omega
      have hrm : readM (s5.get 1) 0 1000 = n0 := by
        rw [unhide Y1]
        simp only [readM]
        rw [unhide HZ]
        simp
        omega
      have hre : readE (s5.get 1) 0 1000 = 0 := by rw [unhide Y1]; rfl
      have eT : str (byteO (s5.get 1)) (0 : Int).toNat n0 = str g0 0 n0 := by
        refine str_congr fun j hj => ?_
        rw [unhide Y1]
        simp only [byteO, unhide HB1, lay, F.empty]
        have ez : (0 : Int).toNat + j = j := by simp
        rw [ez, if_pos (by omega), Nat.zero_add]
        congr 1
      obtain ⟨T, hT⟩ : ∃ T, T = str g0 0 n0 := ⟨_, rfl⟩
      rw [← hT] at eT
      replace hrm := hide hrm
      replace hre := hide hre
      replace eT := hide eT
      replace hT := hide hT
      go_wp2_with fail
      go_loopw [8] (fun i wq => ∃ j : Nat, j ≤ 2 ∧ i = I (j : Int) ∧ Hid (Pl w.heap.size 256 wq p s5) ∧ Hid (Below w.heap.size w wq)) (fun i _ => 2 - (intOf i).toNat)
      case atStart => exact ⟨0, by omega, rfl, P, B⟩
      case round =>
        obtain ⟨j, hj, rfl, Pq, Bq⟩ := hrel
        by_cases hj2 : j < 2
        · have y1 : (j : Int) < 2 := by omega
          go_wp2_with fail
          refine (read_Z Pq 1 (by decide) 0 1000 (by decide) 0 (unhide hre) n0 (unhide hrm) Bq).mono ?_
          rintro e w9 ⟨v, rfl, S9, K9, P9, B9⟩
          have hc1 := conv_sl (unhide S9)
          rw [unhide eT] at hc1
          have hc2 := conv_in ((unhide I0).base rfl (unhide B9))
          rw [← unhide hT] at hc2
          have hv : ∃ (pa : Option Addr), v = .slice pa n0 n0 ∧ (0 < n0 → ∃ g, w.heap.size ≤ g ∧ pa = some ⟨g, 0, none⟩ ∧ Rw w9 g n0 n0) := by
            rcases unhide S9 with ⟨h1, h2⟩ | ⟨g, h1, h2, h3⟩
            · exact ⟨none, by rw [h2, h1], fun h => by omega⟩
            · exact ⟨_, h2, fun _ => ⟨g, Nat.le_trans (unhide Pq).bs h1, rfl, Rw.of_row h3⟩⟩
          obtain ⟨pa, rfl, hpa⟩ := hv
          replace hpa := hide hpa
          clear S9 K9 Pq Bq
          go_wp2_with fail
          go_loopw [11] (fun i wz => ∃ t : Nat, t ≤ n0 ∧ i = I (t : Int) ∧ Hid (0 < n0 → ∃ g, w.heap.size ≤ g ∧ pa = some ⟨g, 0, none⟩ ∧ Rw wz g n0 n0) ∧ Hid (Pl w.heap.size 256 wz p s5) ∧ Hid (Below w.heap.size w wz)) (fun i _ => n0 - (intOf i).toNat)
          case atStart => exact ⟨0, by omega, rfl, hpa, P9, B9⟩
          case round =>
            obtain ⟨t, ht, rfl, hR, Pz, Bz⟩ := hrel
            clear hpa P9 B9 hc1 hc2
            by_cases htn : t < n0
            · have t1 : (t : Int) < (n0 : Int) := by omega
              have t0 : (0 : Int) ≤ (t : Int) := by omega
              obtain ⟨g, hg, rfl, hRg⟩ := unhide hR (by omega)
              obtain ⟨⟨y, hc⟩, hf⟩ := hRg.cell htn
              have HRg := hide hRg
              clear hRg hR
              go_wp2_with fail
              exact ⟨⟨t + 1, by omega, rfl, hide (fun _ => ⟨g, hg, rfl, (unhide HRg).set _ _⟩), hide ((unhide Pz).set5 (unhide HRg) _ _), hide ((unhide Bz).trans ((Below.refl _ _).setCell (by exact hg) _))⟩, by simp [intOf]; omega⟩
            · have t1 : ¬ (t : Int) < (n0 : Int) := by omega
              go_wp2_with fail
              exact ⟨⟨j + 1, by omega, rfl, Pz, Bz⟩, by simp [intOf]; omega⟩
        · have y1 : ¬ (j : Int) < 2 := by omega
          go_wp2_with fail
          refine (known_any _).mono ?_
          rintro e w9 ⟨rfl, K9⟩
          go_wp2_with fail
          go_ret
          exact ⟨rfl, (unhide Bq).trans (K9.mono (unhide Pq).bs)⟩
end Go.Proofs.Ytaogokgklkdmpaa
