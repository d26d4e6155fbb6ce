/-
  The document's pool: the contract of Read.
-/
import Derived.Test.YtaogokgklkdmpaaRefC
namespace Go.Proofs.Ytaogokgklkdmpaa
open Go.RowKit Go.Maps

theorem row_bs {W : World} {base : Nat} {g m cap : Nat} {f : Nat → Int} {a : Nat} (h : W.ownsRow base 5 1 (.slice (some ⟨g, 0, none⟩) m cap) m (lst f a m)) : Bs W g 0 m (fun j => f (a + j)) := by
  rcases own_at h with ⟨h1, _⟩ | ⟨g', cap', cur, h1, _, h3, h4, _, h5, h6⟩
  · cases h1
  · cases h1
    intro j hj
    rw [cell_of h3, Nat.zero_add]
    have e := congrArg (fun l => l[j]?) h6
    simp only [List.getElem?_take, if_pos hj] at e
    rw [lst_get' hj] at e
    simpa using e
theorem row_str {W : World} {base : Nat} {v : Value} {m : Nat} {f : Nat → Int} {a : Nat} (h : W.ownsRow base 5 1 v m (lst f a m)) : (convert 28 9 v).run Try.prog W = .ok (.string (str f a m)) W := by
  rcases own_at h with ⟨rfl, rfl, _⟩ | ⟨g, cap, cur, rfl, _⟩
  · exact conv_nil _ _ _
  · rw [conv_bs (row_bs h)]
    congr 2
    exact str_congr fun j _ => by simp
theorem lst_push (f : Nat → Int) (a m : Nat) : lst f a m ++ [U (f (a + m))] = lst f a (m + 1) := by simp [lst, List.range_succ]
set_option maxHeartbeats 1000000 in
theorem rread_any {base lim n : Nat} {W : World} {q : Nat} {s : S} (h : Rq base lim n W q s) (f a k : Int) (hf : (kl f).wf = true) (hl : s.fs.length ≤ 1000000) (E : Int) (hE : readE (s.get f) a k = E) (M : Nat) (hM : readM (s.get f) a k = M) :
    Calls Try.prog 21 #[P0 q, I f, I a, I k] W fun e w' => ∃ v, e = .returned (.tuple #[v, I E]) ∧ Hid ((convert 28 9 v).run Try.prog w' = .ok (.string (str (byteO (s.get f)) a.toNat M)) w') ∧ Hid (Below W.heap.size W w') := by
  obtain ⟨Lv, fb, bv, h⟩ := h
  subst hE
  subst hM
  cases e : s.get f with
  | none =>
    have he : ofV s fb f = .pointer none := by simp only [ofV, e]
    simp only [readE, readM, byteO]
    go_enter Try.func21, Try.ntmps21
    go_wp2_with fail
    refine (of_any h f hf hl).mono ?_
    rintro e w1 ⟨rfl, rfl⟩
    rw [he]
    go_wp2_with fail
    go_ret2
    exact ⟨_, rfl, hide (conv_nil _ _ _), hide (Below.refl _ _)⟩
  | some x =>
    have he : ofV s fb f = P0 (fb (f.toNat - 1)) := by simp only [ofV, e]
    have hx := h.hx _ x (Sget_at e)
    simp only [readE, readM, byteO]
    by_cases a0 : a < 0
    · simp only [if_pos (Or.inl a0 : a < 0 ∨ k < 0)]
      clear hx
      go_enter Try.func21, Try.ntmps21
      go_wp2_with fail
      refine (of_any h f hf hl).mono ?_
      rintro e w1 ⟨rfl, rfl⟩
      rw [he]
      go_wp2_with fail
      go_ret2
      exact ⟨_, rfl, hide (conv_nil _ _ _), hide (Below.refl _ _)⟩
    · by_cases k0 : k < 0
      · simp only [if_pos (Or.inr k0 : a < 0 ∨ k < 0)]
        clear hx
        go_enter Try.func21, Try.ntmps21
        go_wp2_with fail
        refine (of_any h f hf hl).mono ?_
        rintro e w1 ⟨rfl, rfl⟩
        rw [he]
        go_wp2_with fail
        go_ret2
        exact ⟨_, rfl, hide (conv_nil _ _ _), hide (Below.refl _ _)⟩
      · simp only [if_neg (show ¬ (a < 0 ∨ k < 0) by omega)]
        obtain ⟨A, rfl⟩ := Int.eq_ofNat_of_zero_le (show 0 ≤ a by omega)
        obtain ⟨K, rfl⟩ := Int.eq_ofNat_of_zero_le (show 0 ≤ k by omega)
        simp only [Int.toNat_natCast]
        obtain ⟨c0, _, _⟩ := hx.cells
        obtain ⟨c, hc⟩ : ∃ c, c = fb (f.toNat - 1) := ⟨_, rfl⟩
        rw [← hc] at c0 he hx
        obtain ⟨va, vcap, hbv, _⟩ := own_val hx.hb
        rw [hbv] at c0
        obtain ⟨z, hz⟩ : ∃ z : Nat, z = x.size := ⟨_, rfl⟩
        have hz1 : z ≤ 1024 := by rw [hz]; exact hx.ok.most
        have hrow := hx.hb
        rw [hbv, ← hz] at hrow
        rw [← hz] at c0 ⊢
        obtain ⟨M, hM⟩ : ∃ M : Nat, M = min K (z - A) := ⟨_, rfl⟩
        rw [← hM]
        have M1 : M ≤ K := by omega
        have M2 : M ≤ z - A := by omega
        have M3 : M = K ∨ (M < K ∧ M = z - A) := by omega
        have z2 : (z : Int) ≤ 1024 := by omega
        have hcl := lt_of_heap hx.hc
        obtain ⟨i0, hi, hz0, hzz1, hzz2⟩ := info_parts info5
        have HR := hide hrow
        have H := hide h
        have HE := hide he
        clear hrow hbv hx h he hM hz e hc
        go_enter Try.func21, Try.ntmps21
        go_wp2_with fail
        refine (of_any (unhide H) f hf hl).mono ?_
        rintro e w1 ⟨rfl, rfl⟩
        rw [unhide HE]
        go_wp2_with fail
        go_loopw [11, 12] (fun v i wr => ∃ j : Nat, j ≤ M ∧ i = I (j : Int) ∧ Hid (wr.ownsRow w1.heap.size 5 1 v j (lst x.byte A j)) ∧ Hid (Below w1.heap.size w1 wr)) (fun _ i _ => M - (intOf i).toNat)
        case atStart => exact ⟨0, by omega, rfl, hide (World.ownsRow_nil _ _ _ _), hide (Below.refl _ _)⟩
        case round =>
          obtain ⟨j, hj, rfl, hO, hB⟩ := hrel
          obtain ⟨oa, ocap, hv, _⟩ := own_val (unhide hO)
          subst hv
          have d0 : wr.cell? ⟨c, 0, none⟩ = some (.slice va z vcap) := (cell_same ((unhide hB).block c hcl) 0).trans c0
          by_cases hjM : j < M
          · obtain ⟨g, cap2, e1, _, hcell, _⟩ := own_cell (unhide HR) (show A + j < z by omega)
            cases e1
            rw [lst_get' (show A + j < z by omega), Nat.zero_add] at hcell
            have d1 : wr.cell? ⟨g, A + j, none⟩ = some (U (x.byte (A + j))) := (cell_same ((unhide hB).block g (lt_of_cell hcell)) _).trans hcell
            obtain ⟨y, hy⟩ : ∃ y, y = x.byte (A + j) := ⟨_, rfl⟩
            rw [← hy] at d1
            replace hy := hide hy
            have HO := hide ((unhide hO).alloc (.cells #[U y] 5))
            have z3 : (j : Int) < (K : Int) := by omega
            have z4 : (A : Int) < (z : Int) := by omega
            have z5 : (j : Int) < (z : Int) - (A : Int) := by omega
            have z6 : (0 : Int) ≤ (A : Int) + (j : Int) := by omega
            have z7 : (A : Int) + (j : Int) < (z : Int) := by omega
            clear hcell c0
            go_wp2_with (first | (at_builtin; refine wpList_append_own_at _ rfl _ _ 28 rfl w1.heap.size 5 i0 (U 0) 1 1 Try.underlying28 hi hz0 hzz1 hzz2 rfl (by decide) (.slice oa j ocap) j _ rfl (unhide HO) ⟨wr.heap.size, 0, none⟩ 1 1 [U y] rfl rfl (cell_one_new _ _ _) ?_ (by unfold maxLen; omega) (by omega) ?_ ?_) | fail)
            · intro u hu
              simp at hu
              subst hu
              rfl
            · have := (unhide hB).size
              simp
              omega
            · intro v' w2 hO2 hG _ _
              go_wp2_with fail
              refine ⟨⟨j + 1, by omega, rfl, hide ?_, hide ?_⟩, by simp [intOf]; omega⟩
              · rw [unhide hy, lst_push] at hO2
                exact hO2
              · refine (Fr.grown (S := []) ((Fr.of_below (unhide hB)).alloc _) hG fun b hb => .inr ?_).below
                exact (own_blk (unhide hO) hb).1
          · obtain rfl : j = M := by omega
            rcases M3 with h3 | ⟨h3, h4⟩
            · have z3 : ¬ (j : Int) < (K : Int) := by omega
              clear h3
              go_wp2_with fail
              go_ret2
              exact ⟨_, rfl, hide (row_str (unhide hO)), hB⟩
            · have z3 : (j : Int) < (K : Int) := by omega
              by_cases h5 : A < z
              · have z4 : (A : Int) < (z : Int) := by omega
                have z5 : ¬ (j : Int) < (z : Int) - (A : Int) := by omega
                clear h4 h3
                go_wp2_with fail
                go_ret2
                exact ⟨_, rfl, hide (row_str (unhide hO)), hB⟩
              · have z4 : ¬ (A : Int) < (z : Int) := by omega
                clear h4 h3
                go_wp2_with fail
                go_ret2
                exact ⟨_, rfl, hide (row_str (unhide hO)), hB⟩
end Go.Proofs.Ytaogokgklkdmpaa
