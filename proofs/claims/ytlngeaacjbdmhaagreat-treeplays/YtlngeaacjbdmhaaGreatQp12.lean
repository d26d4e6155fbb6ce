/-
  The contract of Within.
-/
import Derived.Test.YtlngeaacjbdmhaaGreatQp06
namespace Go.Proofs.YtlngeaacjbdmhaaGreat
open Go.RowKit Go.Shelf Go.Maps
attribute [local go_sem] Oper.semAt_some
theorem above_any (t : Nat) (n : Int) (w : World) : Calls Tryz.prog 80 #[P0 t, I n] w fun e w' => e = .returned (.func (.func 142) #[] #[.pointer (some ⟨w.heap.size + 1, 0, none⟩), .pointer (some ⟨w.heap.size, 0, none⟩)]) ∧ w' = (w.alloc (.cells #[P0 t] 23)).alloc (.cells #[I n] 3) := by
  go_enter Tryz.func80, Tryz.ntmps80
  go_wp2
  go_ret
  exact ⟨rfl, rfl⟩
theorem Ab.wf {B : Nat} {T : Tr} (hw : Wk B T) (hB : B ≤ 900) : ∀ {l : List Int} {n : Int}, Ab T n l → ∀ u ∈ l, (kl u).wf = true
  | [], _, _, _, h => by simp at h
  | a :: l, n, h, u, hu => by
    obtain ⟨h1, h2, h3, h4⟩ := h
    rcases List.mem_cons.1 hu with rfl | hu
    · simp only [Tr.up] at h1
      cases hx : T.dir n with
      | none => rw [hx] at h1; simp at h1; omega
      | some x =>
        rw [hx] at h1
        simp only at h1
        obtain ⟨g1, g2⟩ := Tr.dir_some.1 hx
        split at h1
        · omega
        · have := hw.upw n x g1
          exact wf_of (by omega)
    · exact Ab.wf hw hB h4 u hu
theorem Ab.nodup {T : Tr} : ∀ {l : List Int} {n : Int}, Ab T n l → l.Nodup
  | [], _, _ => List.nodup_nil
  | a :: l, n, h => by
    obtain ⟨_, _, _, h4⟩ := h
    exact List.nodup_cons.2 ⟨h4.notin, Ab.nodup h4⟩
theorem idx_of : ∀ {l : List Int}, l.Nodup → ∀ {i : Nat} {u : Int}, l[i]? = some u → l.idxOf u = i
  | [], _, _, _, hu => by simp at hu
  | a :: l, _, 0, u, hu => by
    simp at hu
    subst hu
    simp
  | a :: l, h, i + 1, u, hu => by
    have hu' : l[i]? = some u := by simpa using hu
    have hm : u ∈ l := List.mem_of_getElem? hu'
    have hne : ¬ a = u := fun e => (List.nodup_cons.1 h).1 (by rw [e]; exact hm)
    have := idx_of (List.nodup_cons.1 h).2 hu'
    have hb : (a == u) = false := by simpa using hne
    simp [List.idxOf_cons, hb, this]
theorem Ab.fin {T : Tr} {a : Int} {ls : List Int} {i : Nat} (h : Ab T a (ls.drop i)) (hi : i ≤ ls.length) (hu : T.up a = 0 ∨ T.up a = a) : i = ls.length := by
  cases e : ls.drop i with
  | nil =>
    have := List.drop_eq_nil_iff.1 e
    omega
  | cons u l =>
    rw [e] at h
    obtain ⟨h1, h2, h3, _⟩ := h
    omega
theorem Ab.next {T : Tr} {a : Int} {ls : List Int} {i : Nat} (h : Ab T a (ls.drop i)) (h0 : T.up a ≠ 0) (h1 : T.up a ≠ a) : ls[i]? = some (T.up a) ∧ Ab T (T.up a) (ls.drop (i + 1)) := by
  cases e : ls.drop i with
  | nil =>
    rw [e] at h
    simp only [Ab] at h
    omega
  | cons u l =>
    rw [e] at h
    obtain ⟨g1, g2, g3, g4⟩ := h
    rw [g1]
    have e1 : ls[i]? = some u := by
      have : (ls.drop i)[0]? = some u := by rw [e]; rfl
      simpa using this
    refine ⟨e1, ?_⟩
    have : ls.drop (i + 1) = l := by
      have h2 : (ls.drop i).drop 1 = l := by rw [e]; rfl
      rw [List.drop_drop] at h2
      exact h2
    rw [this]; exact g4
def mea (ls : List Int) (s4 s5 : Value) : Nat := if intOf s5 = 0 ∨ intOf s5 = intOf s4 then 0 else ls.length - ls.idxOf (intOf s5)
theorem mea_lt {T : Tr} {ls : List Int} (hn : ls.Nodup) {i : Nat} {a u : Int} (hi : i < ls.length) (hx : ls.idxOf u = i) (h0 : u ≠ 0) (h1 : u ≠ a) (h : Ab T u (ls.drop (i + 1))) : mea ls (.int .i64 u) (.int .i64 (T.up u)) < mea ls (.int .i64 a) (.int .i64 u) := by
  unfold mea
  show (if T.up u = 0 ∨ T.up u = u then 0 else ls.length - ls.idxOf (T.up u)) < (if u = 0 ∨ u = a then 0 else ls.length - ls.idxOf u)
  rw [if_neg (show ¬ (u = 0 ∨ u = a) by omega), hx]
  by_cases e : T.up u = 0 ∨ T.up u = u
  · rw [if_pos e]; omega
  · rw [if_neg e]
    have hx2 := (h.next (by omega) (by omega)).1
    rw [idx_of hn hx2]
    omega
section
variable {lo N : Nat} {T : Tr} {q p : Nat} {nb : Int → Nat} {ev : Int → Value} {B : Nat}
set_option maxRecDepth 100000 in
set_option maxHeartbeats 1000000 in
theorem above_iter {V : World} {t : Nat} (hT : TrI lo N V t T q p nb ev) (hw : Wk B T) (hB : B ≤ 890) (l xn xt : Nat) (n : Int) (hn : (kl n).wf = true) (ls : List Int) (hl : Ab T n ls) (W : World) (J : Nat → World → Prop) (S : World → Prop) (hJ0 : J 0 W)
    (hJA : ∀ i W', J i W' → Below V.heap.size V W' ∧ W'.cell? ⟨xn, 0, none⟩ = some (I n) ∧ W'.cell? ⟨xt, 0, none⟩ = some (P0 t))
    (hJD : ∀ i W' k, J i W' → J i (W'.drewN k))
    (hY : ∀ (i : Nat) W' u, J i W' → ls[i]? = some u → YieldAt Fence.wide (3 - 1) Tryz.prog l #[.int .i64 u] W' fun e W2 => (e = .returned (.bool true) ∧ J (i + 1) W2) ∨ (e = .returned (.bool false) ∧ S W2)) :
    CallsIn Fence.wide 3 Tryz.prog 142 #[.func (.yield l) #[] #[], .pointer (some ⟨xn, 0, none⟩), .pointer (some ⟨xt, 0, none⟩)] W fun e W' => e = .returned (.tuple #[]) ∧ (J ls.length W' ∨ S W') := by
  have hro : Fence.wide.round = none := rfl
  have HY := hide hY
  have HA := hide hJA
  have HD := hide hJD
  have HU : Hid (∀ i W' m, J i W' → (kl m).wf = true → Calls Tryz.prog 89 #[P0 t, I m] W' fun e w' => e = .returned (I (T.up m)) ∧ J i w') := fun i W' m hJ hm => by
    refine (up_any (hT.below (hJA i W' hJ).1) hm).mono ?_
    rintro e w' ⟨h1, k, rfl⟩
    exact ⟨h1, hJD i W' k hJ⟩
  have HWF := hide (hl.wf hw (by omega))
  have HL := hide hl
  have HN := hide hn
  obtain ⟨_, x0, x1⟩ := hJA 0 W hJ0
  clear hY hJA hJD hT hw hl hn
  refine callsIn_of_wp Tryz.func142 rfl trivial ?_ hro
  simp only [Tryz.ntmps142, List.size_toArray, List.length_cons, List.length_nil, Nat.reduceAdd, Nat.reduceSub, Array.replicate_succ, Array.replicate_zero, List.push_toArray, List.append_toArray, List.nil_append, List.cons_append]
  have HU1 := hide (unhide HU 0 W.drew n (unhide HD 0 W 1 hJ0) (unhide HN))
  have HND := hide (unhide HL).nodup
  clear hJ0
  gi_wp2_with fail
  refine wpIn_region_any (by kernel_rfl) ?_
  refine wpAnyIn_ready (rs := [0, 1, 2]) (by kernel_rfl) (by simp) ?_
  refine AllReadyIn.cons rfl (fun K hK => ?_) ?_
  · go_simp
    refine hK _ _ ?_
    clear hK K
    refine wpAnyIn_ready (rs := [1, 2]) (by kernel_rfl) (by simp) ?_
    refine AllReadyIn.cons rfl (fun K hK => ?_) ?_
    · go_simp
      refine hK _ _ ?_
      clear hK K
      refine wpAnyIn_ready (rs := [2]) (by kernel_rfl) (by simp) ?_
      refine AllReadyIn.cons rfl (fun K hK => ?_) ?_
      · go_simp
        refine hK _ _ ?_
        clear hK K
        refine wpAnyIn_ready (rs := [3]) (by kernel_rfl) (by simp) ?_
        refine AllReadyIn.cons rfl (fun K hK => ?_) ?_
        · go_simp
          refine ⟨trivial, (callsIn_wide.2 (unhide HU1)).mono ?_⟩
          rintro e w5 ⟨rfl, hJ5⟩
          obtain ⟨_, y0, y1⟩ := unhide HA 0 w5 hJ5
          have HJ5 := hide hJ5
          clear hJ5
          refine hK _ _ ?_
          clear hK K
          refine wpAnyIn_ready (rs := [4]) (by kernel_rfl) (by simp) ?_
          refine AllReadyIn.cons rfl (fun K hK => ?_) ?_
          · go_simp
            refine hK _ _ ?_
            clear hK K
            refine wpAnyIn_ready (rs := [5]) (by kernel_rfl) (by simp) ?_
            refine AllReadyIn.cons rfl (fun K hK => ?_) ?_
            · go_simp
              refine hK _ _ ?_
              clear hK K
              refine wpAnyIn_done (by kernel_rfl) ?_ _
              gi_wp2_with fail
              gi_loopw [4, 5] (fun s4 s5 wr => ∃ (i : Nat) (a : Int), i ≤ ls.length ∧ s4 = .int .i64 a ∧ s5 = .int .i64 (T.up a) ∧ Hid (Ab T a (ls.drop i)) ∧ Hid (J i wr)) (fun s4 s5 _ => mea ls s4 s5)
              case atStart => exact ⟨0, n, Nat.zero_le _, rfl, rfl, HL, HJ5⟩
              case round =>
                obtain ⟨i, a, hi, rfl, rfl, HAB, HJ⟩ := hrel
                by_cases h0 : T.up a = 0
                · have hfin : i = ls.length := (unhide HAB).fin hi (.inl h0)
                  rw [h0]
                  clear h0 HAB hi
                  gi_wp2_with fail
                  go_end0
                  exact ⟨rfl, .inl (by rw [← hfin]; exact unhide HJ)⟩
                · by_cases h1 : T.up a = a
                  · have hfin : i = ls.length := (unhide HAB).fin hi (.inr h1)
                    rw [h1] at h0 ⊢
                    clear h1 HAB hi
                    gi_wp2_with fail
                    go_end0
                    exact ⟨rfl, .inl (by rw [← hfin]; exact unhide HJ)⟩
                  · obtain ⟨hl1, hab⟩ := (unhide HAB).next h0 h1
                    generalize hua : T.up a = u at *
                    have hil := (List.getElem?_eq_some_iff.1 hl1).1
                    have hmem : u ∈ ls := List.mem_of_getElem? hl1
                    have hidx := hide (idx_of (unhide HND) hl1)
                    have HAB2 := hide hab
                    have b0 : (u != 0) = true := by simpa using h0
                    have b1 : (u != a) = true := by simpa using h1
                    obtain ⟨fn, tmps, assign, body, hyy, hR⟩ := unhide HY i wr u (unhide HJ) hl1
                    have HR := hide hR
                    have HWU := hide (unhide HWF u hmem)
                    clear hl1 hab hua hmem HAB hR
                    gi_wp2_with fail
                    refine (unhide HR).mono ?_
                    rintro e W2 (⟨rfl, hJ2⟩ | ⟨rfl, hS⟩)
                    · obtain ⟨_, y0, y1⟩ := unhide HA (i + 1) W2 hJ2
                      have HU2 := hide (unhide HU (i + 1) W2 u hJ2 (unhide HWU))
                      clear hJ2
                      gi_wp2_with fail
                      refine ⟨trivial, (callsIn_wide.2 (unhide HU2)).mono ?_⟩
                      rintro e W3 ⟨rfl, hJ3⟩
                      have HJ3 := hide hJ3
                      clear hJ3
                      gi_wp2_with fail
                      refine ⟨⟨i + 1, u, by omega, rfl, rfl, HAB2, HJ3⟩, ?_⟩
                      exact mea_lt (unhide HND) hil (unhide hidx) h0 h1 (unhide HAB2)
                    · gi_wp2_with fail
                      refine bodyPost_ret (results_none rfl _ _ _) rfl ?_
                      exact ⟨rfl, .inr hS⟩
            exact AllReadyIn.nil
          exact AllReadyIn.nil
        exact AllReadyIn.nil
      exact AllReadyIn.nil
    refine AllReadyIn.cons rfl (fun K hK => ?_) ?_
    · go_simp
      refine hK _ _ ?_
      clear hK K
      refine wpAnyIn_ready (rs := [1]) (by kernel_rfl) (by simp) ?_
      refine AllReadyIn.cons rfl (fun K hK => ?_) ?_
      · go_simp
        refine hK _ _ ?_
        clear hK K
        refine wpAnyIn_ready (rs := [3]) (by kernel_rfl) (by simp) ?_
        refine AllReadyIn.cons rfl (fun K hK => ?_) ?_
        · go_simp
          refine ⟨trivial, (callsIn_wide.2 (unhide HU1)).mono ?_⟩
          rintro e w5 ⟨rfl, hJ5⟩
          obtain ⟨_, y0, y1⟩ := unhide HA 0 w5 hJ5
          have HJ5 := hide hJ5
          clear hJ5
          refine hK _ _ ?_
          clear hK K
          refine wpAnyIn_ready (rs := [4]) (by kernel_rfl) (by simp) ?_
          refine AllReadyIn.cons rfl (fun K hK => ?_) ?_
          · go_simp
            refine hK _ _ ?_
            clear hK K
            refine wpAnyIn_ready (rs := [5]) (by kernel_rfl) (by simp) ?_
            refine AllReadyIn.cons rfl (fun K hK => ?_) ?_
            · go_simp
              refine hK _ _ ?_
              clear hK K
              refine wpAnyIn_done (by kernel_rfl) ?_ _
              gi_wp2_with fail
              gi_loopw [4, 5] (fun s4 s5 wr => ∃ (i : Nat) (a : Int), i ≤ ls.length ∧ s4 = .int .i64 a ∧ s5 = .int .i64 (T.up a) ∧ Hid (Ab T a (ls.drop i)) ∧ Hid (J i wr)) (fun s4 s5 _ => mea ls s4 s5)
              case atStart => exact ⟨0, n, Nat.zero_le _, rfl, rfl, HL, HJ5⟩
              case round =>
                obtain ⟨i, a, hi, rfl, rfl, HAB, HJ⟩ := hrel
                by_cases h0 : T.up a = 0
                · have hfin : i = ls.length := (unhide HAB).fin hi (.inl h0)
                  rw [h0]
                  clear h0 HAB hi
                  gi_wp2_with fail
                  go_end0
                  exact ⟨rfl, .inl (by rw [← hfin]; exact unhide HJ)⟩
                · by_cases h1 : T.up a = a
                  · have hfin : i = ls.length := (unhide HAB).fin hi (.inr h1)
                    rw [h1] at h0 ⊢
                    clear h1 HAB hi
                    gi_wp2_with fail
                    go_end0
                    exact ⟨rfl, .inl (by rw [← hfin]; exact unhide HJ)⟩
                  · obtain ⟨hl1, hab⟩ := (unhide HAB).next h0 h1
                    generalize hua : T.up a = u at *
                    have hil := (List.getElem?_eq_some_iff.1 hl1).1
                    have hmem : u ∈ ls := List.mem_of_getElem? hl1
                    have hidx := hide (idx_of (unhide HND) hl1)
                    have HAB2 := hide hab
                    have b0 : (u != 0) = true := by simpa using h0
                    have b1 : (u != a) = true := by simpa using h1
                    obtain ⟨fn, tmps, assign, body, hyy, hR⟩ := unhide HY i wr u (unhide HJ) hl1
                    have HR := hide hR
                    have HWU := hide (unhide HWF u hmem)
                    clear hl1 hab hua hmem HAB hR
                    gi_wp2_with fail
                    refine (unhide HR).mono ?_
                    rintro e W2 (⟨rfl, hJ2⟩ | ⟨rfl, hS⟩)
                    · obtain ⟨_, y0, y1⟩ := unhide HA (i + 1) W2 hJ2
                      have HU2 := hide (unhide HU (i + 1) W2 u hJ2 (unhide HWU))
                      clear hJ2
                      gi_wp2_with fail
                      refine ⟨trivial, (callsIn_wide.2 (unhide HU2)).mono ?_⟩
                      rintro e W3 ⟨rfl, hJ3⟩
                      have HJ3 := hide hJ3
                      clear hJ3
                      gi_wp2_with fail
                      refine ⟨⟨i + 1, u, by omega, rfl, rfl, HAB2, HJ3⟩, ?_⟩
                      exact mea_lt (unhide HND) hil (unhide hidx) h0 h1 (unhide HAB2)
                    · gi_wp2_with fail
                      refine bodyPost_ret (results_none rfl _ _ _) rfl ?_
                      exact ⟨rfl, .inr hS⟩
            exact AllReadyIn.nil
          exact AllReadyIn.nil
        exact AllReadyIn.nil
      exact AllReadyIn.nil
    exact AllReadyIn.nil
  refine AllReadyIn.cons rfl (fun K hK => ?_) ?_
  · go_simp
    refine hK _ _ ?_
    clear hK K
    refine wpAnyIn_ready (rs := [0, 2]) (by kernel_rfl) (by simp) ?_
    refine AllReadyIn.cons rfl (fun K hK => ?_) ?_
    · go_simp
      refine hK _ _ ?_
      clear hK K
      refine wpAnyIn_ready (rs := [2]) (by kernel_rfl) (by simp) ?_
      refine AllReadyIn.cons rfl (fun K hK => ?_) ?_
      · go_simp
        refine hK _ _ ?_
        clear hK K
        refine wpAnyIn_ready (rs := [3]) (by kernel_rfl) (by simp) ?_
        refine AllReadyIn.cons rfl (fun K hK => ?_) ?_
        · go_simp
          refine ⟨trivial, (callsIn_wide.2 (unhide HU1)).mono ?_⟩
          rintro e w5 ⟨rfl, hJ5⟩
          obtain ⟨_, y0, y1⟩ := unhide HA 0 w5 hJ5
          have HJ5 := hide hJ5
          clear hJ5
          refine hK _ _ ?_
          clear hK K
          refine wpAnyIn_ready (rs := [4]) (by kernel_rfl) (by simp) ?_
          refine AllReadyIn.cons rfl (fun K hK => ?_) ?_
          · go_simp
            refine hK _ _ ?_
            clear hK K
            refine wpAnyIn_ready (rs := [5]) (by kernel_rfl) (by simp) ?_
            refine AllReadyIn.cons rfl (fun K hK => ?_) ?_
            · go_simp
              refine hK _ _ ?_
              clear hK K
              refine wpAnyIn_done (by kernel_rfl) ?_ _
              gi_wp2_with fail
              gi_loopw [4, 5] (fun s4 s5 wr => ∃ (i : Nat) (a : Int), i ≤ ls.length ∧ s4 = .int .i64 a ∧ s5 = .int .i64 (T.up a) ∧ Hid (Ab T a (ls.drop i)) ∧ Hid (J i wr)) (fun s4 s5 _ => mea ls s4 s5)
              case atStart => exact ⟨0, n, Nat.zero_le _, rfl, rfl, HL, HJ5⟩
              case round =>
                obtain ⟨i, a, hi, rfl, rfl, HAB, HJ⟩ := hrel
                by_cases h0 : T.up a = 0
                · have hfin : i = ls.length := (unhide HAB).fin hi (.inl h0)
                  rw [h0]
                  clear h0 HAB hi
                  gi_wp2_with fail
                  go_end0
                  exact ⟨rfl, .inl (by rw [← hfin]; exact unhide HJ)⟩
                · by_cases h1 : T.up a = a
                  · have hfin : i = ls.length := (unhide HAB).fin hi (.inr h1)
                    rw [h1] at h0 ⊢
                    clear h1 HAB hi
                    gi_wp2_with fail
                    go_end0
                    exact ⟨rfl, .inl (by rw [← hfin]; exact unhide HJ)⟩
                  · obtain ⟨hl1, hab⟩ := (unhide HAB).next h0 h1
                    generalize hua : T.up a = u at *
                    have hil := (List.getElem?_eq_some_iff.1 hl1).1
                    have hmem : u ∈ ls := List.mem_of_getElem? hl1
                    have hidx := hide (idx_of (unhide HND) hl1)
                    have HAB2 := hide hab
                    have b0 : (u != 0) = true := by simpa using h0
                    have b1 : (u != a) = true := by simpa using h1
                    obtain ⟨fn, tmps, assign, body, hyy, hR⟩ := unhide HY i wr u (unhide HJ) hl1
                    have HR := hide hR
                    have HWU := hide (unhide HWF u hmem)
                    clear hl1 hab hua hmem HAB hR
                    gi_wp2_with fail
                    refine (unhide HR).mono ?_
                    rintro e W2 (⟨rfl, hJ2⟩ | ⟨rfl, hS⟩)
                    · obtain ⟨_, y0, y1⟩ := unhide HA (i + 1) W2 hJ2
                      have HU2 := hide (unhide HU (i + 1) W2 u hJ2 (unhide HWU))
                      clear hJ2
                      gi_wp2_with fail
                      refine ⟨trivial, (callsIn_wide.2 (unhide HU2)).mono ?_⟩
                      rintro e W3 ⟨rfl, hJ3⟩
                      have HJ3 := hide hJ3
                      clear hJ3
                      gi_wp2_with fail
                      refine ⟨⟨i + 1, u, by omega, rfl, rfl, HAB2, HJ3⟩, ?_⟩
                      exact mea_lt (unhide HND) hil (unhide hidx) h0 h1 (unhide HAB2)
                    · gi_wp2_with fail
                      refine bodyPost_ret (results_none rfl _ _ _) rfl ?_
                      exact ⟨rfl, .inr hS⟩
            exact AllReadyIn.nil
          exact AllReadyIn.nil
        exact AllReadyIn.nil
      exact AllReadyIn.nil
    refine AllReadyIn.cons rfl (fun K hK => ?_) ?_
    · go_simp
      refine hK _ _ ?_
      clear hK K
      refine wpAnyIn_ready (rs := [0, 3]) (by kernel_rfl) (by simp) ?_
      refine AllReadyIn.cons rfl (fun K hK => ?_) ?_
      · go_simp
        refine hK _ _ ?_
        clear hK K
        refine wpAnyIn_ready (rs := [3]) (by kernel_rfl) (by simp) ?_
        refine AllReadyIn.cons rfl (fun K hK => ?_) ?_
        · go_simp
          refine ⟨trivial, (callsIn_wide.2 (unhide HU1)).mono ?_⟩
          rintro e w5 ⟨rfl, hJ5⟩
          obtain ⟨_, y0, y1⟩ := unhide HA 0 w5 hJ5
          have HJ5 := hide hJ5
          clear hJ5
          refine hK _ _ ?_
          clear hK K
          refine wpAnyIn_ready (rs := [4]) (by kernel_rfl) (by simp) ?_
          refine AllReadyIn.cons rfl (fun K hK => ?_) ?_
          · go_simp
            refine hK _ _ ?_
            clear hK K
            refine wpAnyIn_ready (rs := [5]) (by kernel_rfl) (by simp) ?_
            refine AllReadyIn.cons rfl (fun K hK => ?_) ?_
            · go_simp
              refine hK _ _ ?_
              clear hK K
              refine wpAnyIn_done (by kernel_rfl) ?_ _
              gi_wp2_with fail
              gi_loopw [4, 5] (fun s4 s5 wr => ∃ (i : Nat) (a : Int), i ≤ ls.length ∧ s4 = .int .i64 a ∧ s5 = .int .i64 (T.up a) ∧ Hid (Ab T a (ls.drop i)) ∧ Hid (J i wr)) (fun s4 s5 _ => mea ls s4 s5)
              case atStart => exact ⟨0, n, Nat.zero_le _, rfl, rfl, HL, HJ5⟩
              case round =>
                obtain ⟨i, a, hi, rfl, rfl, HAB, HJ⟩ := hrel
                by_cases h0 : T.up a = 0
                · have hfin : i = ls.length := (unhide HAB).fin hi (.inl h0)
                  rw [h0]
                  clear h0 HAB hi
                  gi_wp2_with fail
                  go_end0
                  exact ⟨rfl, .inl (by rw [← hfin]; exact unhide HJ)⟩
                · by_cases h1 : T.up a = a
                  · have hfin : i = ls.length := (unhide HAB).fin hi (.inr h1)
                    rw [h1] at h0 ⊢
                    clear h1 HAB hi
                    gi_wp2_with fail
                    go_end0
                    exact ⟨rfl, .inl (by rw [← hfin]; exact unhide HJ)⟩
                  · obtain ⟨hl1, hab⟩ := (unhide HAB).next h0 h1
                    generalize hua : T.up a = u at *
                    have hil := (List.getElem?_eq_some_iff.1 hl1).1
                    have hmem : u ∈ ls := List.mem_of_getElem? hl1
                    have hidx := hide (idx_of (unhide HND) hl1)
                    have HAB2 := hide hab
                    have b0 : (u != 0) = true := by simpa using h0
                    have b1 : (u != a) = true := by simpa using h1
                    obtain ⟨fn, tmps, assign, body, hyy, hR⟩ := unhide HY i wr u (unhide HJ) hl1
                    have HR := hide hR
                    have HWU := hide (unhide HWF u hmem)
                    clear hl1 hab hua hmem HAB hR
                    gi_wp2_with fail
                    refine (unhide HR).mono ?_
                    rintro e W2 (⟨rfl, hJ2⟩ | ⟨rfl, hS⟩)
                    · obtain ⟨_, y0, y1⟩ := unhide HA (i + 1) W2 hJ2
                      have HU2 := hide (unhide HU (i + 1) W2 u hJ2 (unhide HWU))
                      clear hJ2
                      gi_wp2_with fail
                      refine ⟨trivial, (callsIn_wide.2 (unhide HU2)).mono ?_⟩
                      rintro e W3 ⟨rfl, hJ3⟩
                      have HJ3 := hide hJ3
                      clear hJ3
                      gi_wp2_with fail
                      refine ⟨⟨i + 1, u, by omega, rfl, rfl, HAB2, HJ3⟩, ?_⟩
                      exact mea_lt (unhide HND) hil (unhide hidx) h0 h1 (unhide HAB2)
                    · gi_wp2_with fail
                      refine bodyPost_ret (results_none rfl _ _ _) rfl ?_
                      exact ⟨rfl, .inr hS⟩
            exact AllReadyIn.nil
          exact AllReadyIn.nil
        exact AllReadyIn.nil
      refine AllReadyIn.cons rfl (fun K hK => ?_) ?_
      · go_simp
        refine ⟨trivial, (callsIn_wide.2 (unhide HU1)).mono ?_⟩
        rintro e w5 ⟨rfl, hJ5⟩
        obtain ⟨_, y0, y1⟩ := unhide HA 0 w5 hJ5
        have HJ5 := hide hJ5
        clear hJ5
        refine hK _ _ ?_
        clear hK K
        refine wpAnyIn_ready (rs := [0]) (by kernel_rfl) (by simp) ?_
        refine AllReadyIn.cons rfl (fun K hK => ?_) ?_
        · go_simp
          refine hK _ _ ?_
          clear hK K
          refine wpAnyIn_ready (rs := [4]) (by kernel_rfl) (by simp) ?_
          refine AllReadyIn.cons rfl (fun K hK => ?_) ?_
          · go_simp
            refine hK _ _ ?_
            clear hK K
            refine wpAnyIn_ready (rs := [5]) (by kernel_rfl) (by simp) ?_
            refine AllReadyIn.cons rfl (fun K hK => ?_) ?_
            · go_simp
              refine hK _ _ ?_
              clear hK K
              refine wpAnyIn_done (by kernel_rfl) ?_ _
              gi_wp2_with fail
              gi_loopw [4, 5] (fun s4 s5 wr => ∃ (i : Nat) (a : Int), i ≤ ls.length ∧ s4 = .int .i64 a ∧ s5 = .int .i64 (T.up a) ∧ Hid (Ab T a (ls.drop i)) ∧ Hid (J i wr)) (fun s4 s5 _ => mea ls s4 s5)
              case atStart => exact ⟨0, n, Nat.zero_le _, rfl, rfl, HL, HJ5⟩
              case round =>
                obtain ⟨i, a, hi, rfl, rfl, HAB, HJ⟩ := hrel
                by_cases h0 : T.up a = 0
                · have hfin : i = ls.length := (unhide HAB).fin hi (.inl h0)
                  rw [h0]
                  clear h0 HAB hi
                  gi_wp2_with fail
                  go_end0
                  exact ⟨rfl, .inl (by rw [← hfin]; exact unhide HJ)⟩
                · by_cases h1 : T.up a = a
                  · have hfin : i = ls.length := (unhide HAB).fin hi (.inr h1)
                    rw [h1] at h0 ⊢
                    clear h1 HAB hi
                    gi_wp2_with fail
                    go_end0
                    exact ⟨rfl, .inl (by rw [← hfin]; exact unhide HJ)⟩
                  · obtain ⟨hl1, hab⟩ := (unhide HAB).next h0 h1
                    generalize hua : T.up a = u at *
                    have hil := (List.getElem?_eq_some_iff.1 hl1).1
                    have hmem : u ∈ ls := List.mem_of_getElem? hl1
                    have hidx := hide (idx_of (unhide HND) hl1)
                    have HAB2 := hide hab
                    have b0 : (u != 0) = true := by simpa using h0
                    have b1 : (u != a) = true := by simpa using h1
                    obtain ⟨fn, tmps, assign, body, hyy, hR⟩ := unhide HY i wr u (unhide HJ) hl1
                    have HR := hide hR
                    have HWU := hide (unhide HWF u hmem)
                    clear hl1 hab hua hmem HAB hR
                    gi_wp2_with fail
                    refine (unhide HR).mono ?_
                    rintro e W2 (⟨rfl, hJ2⟩ | ⟨rfl, hS⟩)
                    · obtain ⟨_, y0, y1⟩ := unhide HA (i + 1) W2 hJ2
                      have HU2 := hide (unhide HU (i + 1) W2 u hJ2 (unhide HWU))
                      clear hJ2
                      gi_wp2_with fail
                      refine ⟨trivial, (callsIn_wide.2 (unhide HU2)).mono ?_⟩
                      rintro e W3 ⟨rfl, hJ3⟩
                      have HJ3 := hide hJ3
                      clear hJ3
                      gi_wp2_with fail
                      refine ⟨⟨i + 1, u, by omega, rfl, rfl, HAB2, HJ3⟩, ?_⟩
                      exact mea_lt (unhide HND) hil (unhide hidx) h0 h1 (unhide HAB2)
                    · gi_wp2_with fail
                      refine bodyPost_ret (results_none rfl _ _ _) rfl ?_
                      exact ⟨rfl, .inr hS⟩
            exact AllReadyIn.nil
          exact AllReadyIn.nil
        exact AllReadyIn.nil
      exact AllReadyIn.nil
    exact AllReadyIn.nil
  refine AllReadyIn.cons rfl (fun K hK => ?_) ?_
  · go_simp
    refine hK _ _ ?_
    clear hK K
    refine wpAnyIn_ready (rs := [0, 1]) (by kernel_rfl) (by simp) ?_
    refine AllReadyIn.cons rfl (fun K hK => ?_) ?_
    · go_simp
      refine hK _ _ ?_
      clear hK K
      refine wpAnyIn_ready (rs := [1]) (by kernel_rfl) (by simp) ?_
      refine AllReadyIn.cons rfl (fun K hK => ?_) ?_
      · go_simp
        refine hK _ _ ?_
        clear hK K
        refine wpAnyIn_ready (rs := [3]) (by kernel_rfl) (by simp) ?_
        refine AllReadyIn.cons rfl (fun K hK => ?_) ?_
        · go_simp
          refine ⟨trivial, (callsIn_wide.2 (unhide HU1)).mono ?_⟩
          rintro e w5 ⟨rfl, hJ5⟩
          obtain ⟨_, y0, y1⟩ := unhide HA 0 w5 hJ5
          have HJ5 := hide hJ5
          clear hJ5
          refine hK _ _ ?_
          clear hK K
          refine wpAnyIn_ready (rs := [4]) (by kernel_rfl) (by simp) ?_
          refine AllReadyIn.cons rfl (fun K hK => ?_) ?_
          · go_simp
            refine hK _ _ ?_
            clear hK K
            refine wpAnyIn_ready (rs := [5]) (by kernel_rfl) (by simp) ?_
            refine AllReadyIn.cons rfl (fun K hK => ?_) ?_
            · go_simp
              refine hK _ _ ?_
              clear hK K
              refine wpAnyIn_done (by kernel_rfl) ?_ _
              gi_wp2_with fail
              gi_loopw [4, 5] (fun s4 s5 wr => ∃ (i : Nat) (a : Int), i ≤ ls.length ∧ s4 = .int .i64 a ∧ s5 = .int .i64 (T.up a) ∧ Hid (Ab T a (ls.drop i)) ∧ Hid (J i wr)) (fun s4 s5 _ => mea ls s4 s5)
              case atStart => exact ⟨0, n, Nat.zero_le _, rfl, rfl, HL, HJ5⟩
              case round =>
                obtain ⟨i, a, hi, rfl, rfl, HAB, HJ⟩ := hrel
                by_cases h0 : T.up a = 0
                · have hfin : i = ls.length := (unhide HAB).fin hi (.inl h0)
                  rw [h0]
                  clear h0 HAB hi
                  gi_wp2_with fail
                  go_end0
                  exact ⟨rfl, .inl (by rw [← hfin]; exact unhide HJ)⟩
                · by_cases h1 : T.up a = a
                  · have hfin : i = ls.length := (unhide HAB).fin hi (.inr h1)
                    rw [h1] at h0 ⊢
                    clear h1 HAB hi
                    gi_wp2_with fail
                    go_end0
                    exact ⟨rfl, .inl (by rw [← hfin]; exact unhide HJ)⟩
                  · obtain ⟨hl1, hab⟩ := (unhide HAB).next h0 h1
                    generalize hua : T.up a = u at *
                    have hil := (List.getElem?_eq_some_iff.1 hl1).1
                    have hmem : u ∈ ls := List.mem_of_getElem? hl1
                    have hidx := hide (idx_of (unhide HND) hl1)
                    have HAB2 := hide hab
                    have b0 : (u != 0) = true := by simpa using h0
                    have b1 : (u != a) = true := by simpa using h1
                    obtain ⟨fn, tmps, assign, body, hyy, hR⟩ := unhide HY i wr u (unhide HJ) hl1
                    have HR := hide hR
                    have HWU := hide (unhide HWF u hmem)
                    clear hl1 hab hua hmem HAB hR
                    gi_wp2_with fail
                    refine (unhide HR).mono ?_
                    rintro e W2 (⟨rfl, hJ2⟩ | ⟨rfl, hS⟩)
                    · obtain ⟨_, y0, y1⟩ := unhide HA (i + 1) W2 hJ2
                      have HU2 := hide (unhide HU (i + 1) W2 u hJ2 (unhide HWU))
                      clear hJ2
                      gi_wp2_with fail
                      refine ⟨trivial, (callsIn_wide.2 (unhide HU2)).mono ?_⟩
                      rintro e W3 ⟨rfl, hJ3⟩
                      have HJ3 := hide hJ3
                      clear hJ3
                      gi_wp2_with fail
                      refine ⟨⟨i + 1, u, by omega, rfl, rfl, HAB2, HJ3⟩, ?_⟩
                      exact mea_lt (unhide HND) hil (unhide hidx) h0 h1 (unhide HAB2)
                    · gi_wp2_with fail
                      refine bodyPost_ret (results_none rfl _ _ _) rfl ?_
                      exact ⟨rfl, .inr hS⟩
            exact AllReadyIn.nil
          exact AllReadyIn.nil
        exact AllReadyIn.nil
      exact AllReadyIn.nil
    refine AllReadyIn.cons rfl (fun K hK => ?_) ?_
    · go_simp
      refine hK _ _ ?_
      clear hK K
      refine wpAnyIn_ready (rs := [0, 3]) (by kernel_rfl) (by simp) ?_
      refine AllReadyIn.cons rfl (fun K hK => ?_) ?_
      · go_simp
        refine hK _ _ ?_
        clear hK K
        refine wpAnyIn_ready (rs := [3]) (by kernel_rfl) (by simp) ?_
        refine AllReadyIn.cons rfl (fun K hK => ?_) ?_
        · go_simp
          refine ⟨trivial, (callsIn_wide.2 (unhide HU1)).mono ?_⟩
          rintro e w5 ⟨rfl, hJ5⟩
          obtain ⟨_, y0, y1⟩ := unhide HA 0 w5 hJ5
          have HJ5 := hide hJ5
          clear hJ5
          refine hK _ _ ?_
          clear hK K
          refine wpAnyIn_ready (rs := [4]) (by kernel_rfl) (by simp) ?_
          refine AllReadyIn.cons rfl (fun K hK => ?_) ?_
          · go_simp
            refine hK _ _ ?_
            clear hK K
            refine wpAnyIn_ready (rs := [5]) (by kernel_rfl) (by simp) ?_
            refine AllReadyIn.cons rfl (fun K hK => ?_) ?_
            · go_simp
              refine hK _ _ ?_
              clear hK K
              refine wpAnyIn_done (by kernel_rfl) ?_ _
              gi_wp2_with fail
              gi_loopw [4, 5] (fun s4 s5 wr => ∃ (i : Nat) (a : Int), i ≤ ls.length ∧ s4 = .int .i64 a ∧ s5 = .int .i64 (T.up a) ∧ Hid (Ab T a (ls.drop i)) ∧ Hid (J i wr)) (fun s4 s5 _ => mea ls s4 s5)
              case atStart => exact ⟨0, n, Nat.zero_le _, rfl, rfl, HL, HJ5⟩
              case round =>
                obtain ⟨i, a, hi, rfl, rfl, HAB, HJ⟩ := hrel
                by_cases h0 : T.up a = 0
                · have hfin : i = ls.length := (unhide HAB).fin hi (.inl h0)
                  rw [h0]
                  clear h0 HAB hi
                  gi_wp2_with fail
                  go_end0
                  exact ⟨rfl, .inl (by rw [← hfin]; exact unhide HJ)⟩
                · by_cases h1 : T.up a = a
                  · have hfin : i = ls.length := (unhide HAB).fin hi (.inr h1)
                    rw [h1] at h0 ⊢
                    clear h1 HAB hi
                    gi_wp2_with fail
                    go_end0
                    exact ⟨rfl, .inl (by rw [← hfin]; exact unhide HJ)⟩
                  · obtain ⟨hl1, hab⟩ := (unhide HAB).next h0 h1
                    generalize hua : T.up a = u at *
                    have hil := (List.getElem?_eq_some_iff.1 hl1).1
                    have hmem : u ∈ ls := List.mem_of_getElem? hl1
                    have hidx := hide (idx_of (unhide HND) hl1)
                    have HAB2 := hide hab
                    have b0 : (u != 0) = true := by simpa using h0
                    have b1 : (u != a) = true := by simpa using h1
                    obtain ⟨fn, tmps, assign, body, hyy, hR⟩ := unhide HY i wr u (unhide HJ) hl1
                    have HR := hide hR
                    have HWU := hide (unhide HWF u hmem)
                    clear hl1 hab hua hmem HAB hR
                    gi_wp2_with fail
                    refine (unhide HR).mono ?_
                    rintro e W2 (⟨rfl, hJ2⟩ | ⟨rfl, hS⟩)
                    · obtain ⟨_, y0, y1⟩ := unhide HA (i + 1) W2 hJ2
                      have HU2 := hide (unhide HU (i + 1) W2 u hJ2 (unhide HWU))
                      clear hJ2
                      gi_wp2_with fail
                      refine ⟨trivial, (callsIn_wide.2 (unhide HU2)).mono ?_⟩
                      rintro e W3 ⟨rfl, hJ3⟩
                      have HJ3 := hide hJ3
                      clear hJ3
                      gi_wp2_with fail
                      refine ⟨⟨i + 1, u, by omega, rfl, rfl, HAB2, HJ3⟩, ?_⟩
                      exact mea_lt (unhide HND) hil (unhide hidx) h0 h1 (unhide HAB2)
                    · gi_wp2_with fail
                      refine bodyPost_ret (results_none rfl _ _ _) rfl ?_
                      exact ⟨rfl, .inr hS⟩
            exact AllReadyIn.nil
          exact AllReadyIn.nil
        exact AllReadyIn.nil
      refine AllReadyIn.cons rfl (fun K hK => ?_) ?_
      · go_simp
        refine ⟨trivial, (callsIn_wide.2 (unhide HU1)).mono ?_⟩
        rintro e w5 ⟨rfl, hJ5⟩
        obtain ⟨_, y0, y1⟩ := unhide HA 0 w5 hJ5
        have HJ5 := hide hJ5
        clear hJ5
        refine hK _ _ ?_
        clear hK K
        refine wpAnyIn_ready (rs := [0]) (by kernel_rfl) (by simp) ?_
        refine AllReadyIn.cons rfl (fun K hK => ?_) ?_
        · go_simp
          refine hK _ _ ?_
          clear hK K
          refine wpAnyIn_ready (rs := [4]) (by kernel_rfl) (by simp) ?_
          refine AllReadyIn.cons rfl (fun K hK => ?_) ?_
          · go_simp
            refine hK _ _ ?_
            clear hK K
            refine wpAnyIn_ready (rs := [5]) (by kernel_rfl) (by simp) ?_
            refine AllReadyIn.cons rfl (fun K hK => ?_) ?_
            · go_simp
              refine hK _ _ ?_
              clear hK K
              refine wpAnyIn_done (by kernel_rfl) ?_ _
              gi_wp2_with fail
              gi_loopw [4, 5] (fun s4 s5 wr => ∃ (i : Nat) (a : Int), i ≤ ls.length ∧ s4 = .int .i64 a ∧ s5 = .int .i64 (T.up a) ∧ Hid (Ab T a (ls.drop i)) ∧ Hid (J i wr)) (fun s4 s5 _ => mea ls s4 s5)
              case atStart => exact ⟨0, n, Nat.zero_le _, rfl, rfl, HL, HJ5⟩
              case round =>
                obtain ⟨i, a, hi, rfl, rfl, HAB, HJ⟩ := hrel
                by_cases h0 : T.up a = 0
                · have hfin : i = ls.length := (unhide HAB).fin hi (.inl h0)
                  rw [h0]
                  clear h0 HAB hi
                  gi_wp2_with fail
                  go_end0
                  exact ⟨rfl, .inl (by rw [← hfin]; exact unhide HJ)⟩
                · by_cases h1 : T.up a = a
                  · have hfin : i = ls.length := (unhide HAB).fin hi (.inr h1)
                    rw [h1] at h0 ⊢
                    clear h1 HAB hi
                    gi_wp2_with fail
                    go_end0
                    exact ⟨rfl, .inl (by rw [← hfin]; exact unhide HJ)⟩
                  · obtain ⟨hl1, hab⟩ := (unhide HAB).next h0 h1
                    generalize hua : T.up a = u at *
                    have hil := (List.getElem?_eq_some_iff.1 hl1).1
                    have hmem : u ∈ ls := List.mem_of_getElem? hl1
                    have hidx := hide (idx_of (unhide HND) hl1)
                    have HAB2 := hide hab
                    have b0 : (u != 0) = true := by simpa using h0
                    have b1 : (u != a) = true := by simpa using h1
                    obtain ⟨fn, tmps, assign, body, hyy, hR⟩ := unhide HY i wr u (unhide HJ) hl1
                    have HR := hide hR
                    have HWU := hide (unhide HWF u hmem)
                    clear hl1 hab hua hmem HAB hR
                    gi_wp2_with fail
                    refine (unhide HR).mono ?_
                    rintro e W2 (⟨rfl, hJ2⟩ | ⟨rfl, hS⟩)
                    · obtain ⟨_, y0, y1⟩ := unhide HA (i + 1) W2 hJ2
                      have HU2 := hide (unhide HU (i + 1) W2 u hJ2 (unhide HWU))
                      clear hJ2
                      gi_wp2_with fail
                      refine ⟨trivial, (callsIn_wide.2 (unhide HU2)).mono ?_⟩
                      rintro e W3 ⟨rfl, hJ3⟩
                      have HJ3 := hide hJ3
                      clear hJ3
                      gi_wp2_with fail
                      refine ⟨⟨i + 1, u, by omega, rfl, rfl, HAB2, HJ3⟩, ?_⟩
                      exact mea_lt (unhide HND) hil (unhide hidx) h0 h1 (unhide HAB2)
                    · gi_wp2_with fail
                      refine bodyPost_ret (results_none rfl _ _ _) rfl ?_
                      exact ⟨rfl, .inr hS⟩
            exact AllReadyIn.nil
          exact AllReadyIn.nil
        exact AllReadyIn.nil
      exact AllReadyIn.nil
    exact AllReadyIn.nil
  exact AllReadyIn.nil
end
end Go.Proofs.YtlngeaacjbdmhaaGreat
