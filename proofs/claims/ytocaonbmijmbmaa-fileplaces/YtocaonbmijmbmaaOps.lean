/-
  The contracts of Room, find, In, lowest and New.
-/
import Derived.Test.YtocaonbmijmbmaaLook
import Derived.Shelf.Abstract
namespace Go.Proofs.Ytocaonbmijmbmaa
open Go.RowKit Go.Shelf
attribute [local go_sem ↓] Go.wp_at_zero Go.wp_at_succ

/-- A number in a box. -/
theorem boxed1 (w : World) (x : Int) : ∃ V, w.alloc (.cells #[I x] 3) = V ∧ V.cell? ⟨w.heap.size, 0, none⟩ = some (I x) ∧ Below w.heap.size w V ∧ V.heap.size = w.heap.size + 1 := by
  have h := putAll (w := w) (.cells #[I x] 3) w.heap.size rfl
  exact ⟨_, rfl, by rw [cell_of h]; rfl, (Below.refl _ _).alloc (Nat.le_refl _) _, by simp⟩
theorem boxed2 (w : World) (x y : Int) : ∃ V, (w.alloc (.cells #[I x] 3)).alloc (.cells #[I y] 3) = V ∧ V.cell? ⟨w.heap.size, 0, none⟩ = some (I x) ∧ V.cell? ⟨w.heap.size + 1, 0, none⟩ = some (I y) ∧ Below w.heap.size w V ∧ V.heap.size = w.heap.size + 2 := by
  have h1 := putAll (w := w) (.cells #[I x] 3) w.heap.size rfl
  have h2 := putAll (w := w.alloc (.cells #[I x] 3)) (.cells #[I y] 3) (w.heap.size + 1) (by simp)
  have h3 : ((w.alloc (.cells #[I x] 3)).alloc (.cells #[I y] 3)).heap[w.heap.size]? = some (.cells #[I x] 3) := by
    rw [Below.heap_alloc _ _ _ (by simp)]; exact h1
  exact ⟨_, rfl, by rw [cell_of h3]; rfl, by rw [cell_of h2]; rfl, ((Below.refl _ _).alloc (Nat.le_refl _) _).alloc (by simp) _, by simp⟩

/-- What Room answers. -/
def roomE (es : List Op) (n : Nat) (p : Int) : Int :=
  if isP p = true then (if es.countP (isPr p) = 8 then 41 else if es.length = n then 40 else 0) else 1

set_option maxRecDepth 100000 in
set_option maxHeartbeats 1000000 in
theorem room_any (b n : Nat) (es : List Op) (p : Int) (w : World) (h : Tb w b n es) :
    Calls Try.prog 20 #[.pointer (some ⟨b, 0, none⟩), I p] w fun e w' => e = .returned (I (roomE es n p)) ∧ Below w.heap.size w w' := by
  obtain ⟨V, hV, v0, hB, hs⟩ := boxed1 w p
  have hT := h.below hB
  have HP := hide (fun W => isProc_any p W)
  have HN := hide (counted_any b n es.length es 30 w.heap.size (isPr p) V hT rfl (enters_of Try.func30 (by kernel_rfl) rfl)
    (fun o W hW => isPr_any w.heap.size p o W ((hW.cell (p := ⟨w.heap.size, 0, none⟩) (by show w.heap.size < V.heap.size; omega)).trans v0)))
  have HT := hide hT
  have HB := hide hB
  clear h hT hB hs
  by_cases hp : isP p = true
  · rw [hp] at HP
    by_cases hc : es.countP (isPr p) = 8
    · rw [show roomE es n p = 41 by unfold roomE; rw [if_pos hp, if_pos hc]]
      rw [hc] at HN
      clear hc hp
      go_enter Try.func20, Try.ntmps20
      go_wp2_with fail
      refine (unhide HP _).mono ?_
      rintro e w1 ⟨rfl, rfl⟩
      go_wp2_with fail
      refine (unhide HN).mono ?_
      rintro e w1 ⟨rfl, hB1⟩
      have HE := hide ((unhide HB).trans (hB1.mono (unhide HB).size))
      clear HN HT hB1 HB
      go_wp2_with fail
      go_ret
      exact ⟨rfl, unhide HE⟩
    · have hc2 : ¬ ((es.countP (isPr p) : Nat) : Int) = 8 := by omega
      by_cases hl : es.length = n
      · rw [show roomE es n p = 40 by unfold roomE; rw [if_pos hp, if_neg hc, if_pos hl]]
        clear hc hp
        have HL := hide hl
        clear hl
        go_enter Try.func20, Try.ntmps20
        go_wp2_with fail
        refine (unhide HP _).mono ?_
        rintro e w1 ⟨rfl, rfl⟩
        go_wp2_with fail
        refine (unhide HN).mono ?_
        rintro e w1 ⟨rfl, hB1⟩
        have HE := hide ((unhide HB).trans (hB1.mono (unhide HB).size))
        obtain ⟨c0, c1, -⟩ := ((unhide HT).below hB1).cells
        rw [unhide HL] at c1
        clear HN HT hB1 HB HL
        go_wp2_with fail
        go_region
        all_goals go_wp2_with fail
        all_goals go_ret
        all_goals exact ⟨rfl, below_d (unhide HE)⟩
      · rw [show roomE es n p = 0 by unfold roomE; rw [if_pos hp, if_neg hc, if_neg hl]]
        have hl2 : ¬ ((es.length : Nat) : Int) = (n : Int) := by omega
        clear hc hp
        go_enter Try.func20, Try.ntmps20
        go_wp2_with fail
        refine (unhide HP _).mono ?_
        rintro e w1 ⟨rfl, rfl⟩
        go_wp2_with fail
        refine (unhide HN).mono ?_
        rintro e w1 ⟨rfl, hB1⟩
        have HE := hide ((unhide HB).trans (hB1.mono (unhide HB).size))
        obtain ⟨c0, c1, -⟩ := ((unhide HT).below hB1).cells
        clear HN HT hB1 HB
        go_wp2_with fail
        go_region
        all_goals go_wp2_with fail
        all_goals go_ret
        all_goals exact ⟨rfl, below_d (unhide HE)⟩
  · rw [show roomE es n p = 1 by unfold roomE; rw [if_neg hp]]
    rw [show isP p = false by simpa using hp] at HP
    clear hp HN HT
    go_enter Try.func20, Try.ntmps20
    go_wp2_with fail
    refine (unhide HP _).mono ?_
    rintro e w1 ⟨rfl, rfl⟩
    go_wp2_with fail
    go_ret
    exact ⟨rfl, unhide HB⟩

set_option maxRecDepth 100000 in
set_option maxHeartbeats 1000000 in
theorem in_any (b n : Nat) (es : List Op) (m : Int) (w : World) (h : Tb w b n es) :
    Calls Try.prog 13 #[.pointer (some ⟨b, 0, none⟩), I m] w fun e w' => e = .returned (I (es.countP (isMt m))) ∧ Below w.heap.size w w' := by
  obtain ⟨V, hV, v0, hB, hs⟩ := boxed1 w m
  have hT := h.below hB
  have HN := hide (counted_any b n es.length es 27 w.heap.size (isMt m) V hT rfl (enters_of Try.func27 (by kernel_rfl) rfl)
    (fun o W hW => isMt_any w.heap.size m o W ((hW.cell (p := ⟨w.heap.size, 0, none⟩) (by show w.heap.size < V.heap.size; omega)).trans v0)))
  have HB := hide hB
  clear h hT hB hs
  go_enter Try.func13, Try.ntmps13
  go_wp2_with fail
  refine (unhide HN).mono ?_
  rintro e w1 ⟨rfl, hB1⟩
  have HE := hide ((unhide HB).trans (hB1.mono (unhide HB).size))
  clear HN hB1 HB
  go_wp2_with fail
  go_ret
  exact ⟨rfl, unhide HE⟩

/-- What find answers: where, and why not. -/
def fdI (es : List Op) (p d : Int) : Nat := es.findIdx (isPd p d)
def findA (es : List Op) (p d : Int) : Int := if isP p = true then (if fdI es p d < es.length then (fdI es p d : Int) else 0) else 0
def findE (es : List Op) (p d : Int) : Int := if isP p = true then (if fdI es p d < es.length then 0 else 33) else 1

set_option maxRecDepth 100000 in
set_option maxHeartbeats 1000000 in
theorem find_any (b n : Nat) (es : List Op) (p d : Int) (w : World) (h : Tb w b n es) :
    Calls Try.prog 25 #[.pointer (some ⟨b, 0, none⟩), I p, I d] w fun e w' => e = .returned (.tuple #[I (findA es p d), I (findE es p d)]) ∧ Below w.heap.size w w' := by
  obtain ⟨V, hV, v0, v1, hB, hs⟩ := boxed2 w p d
  have hT := h.below hB
  have HP := hide (fun W => isProc_any p W)
  have HO := hide (open_any b n es.length es V hT rfl)
  have HN := hide (fun (U : World) (hU : Below V.heap.size V U) => idx_any b n es.length es 34 w.heap.size (w.heap.size + 1) (isPd p d) U (hT.below hU) rfl (fdI es p d) rfl (enters_of Try.func34 (by kernel_rfl) rfl)
    (fun o W hW => isPd_any w.heap.size (w.heap.size + 1) p d o W
      (((hU.trans (hW.mono hU.size)).cell (p := ⟨w.heap.size, 0, none⟩) (by show w.heap.size < V.heap.size; omega)).trans v0)
      (((hU.trans (hW.mono hU.size)).cell (p := ⟨w.heap.size + 1, 0, none⟩) (by show w.heap.size + 1 < V.heap.size; omega)).trans v1)))
  have HB := hide hB
  clear h hT hB hs v1
  by_cases hp : isP p = true
  · rw [hp] at HP
    by_cases hi : fdI es p d < es.length
    · rw [show findA es p d = (fdI es p d : Int) by unfold findA; rw [if_pos hp, if_pos hi], show findE es p d = 0 by unfold findE; rw [if_pos hp, if_pos hi]]
      have eI : idxA (fdI es p d) es.length = (fdI es p d : Int) := if_pos hi
      rw [eI] at HN
      have h0 : ¬ ((fdI es p d : Nat) : Int) < 0 := by omega
      generalize fdI es p d = ix at *
      clear hp hi eI
      go_enter Try.func25, Try.ntmps25
      go_wp2_with fail
      refine (unhide HP _).mono ?_
      rintro e w1 ⟨rfl, rfl⟩
      go_wp2_with fail
      refine (unhide HO).mono ?_
      rintro e w1 ⟨rfl, hB1⟩
      have HU := hide hB1
      clear hB1 HO
      go_wp2_with fail
      refine (unhide HN _ (unhide HU)).mono ?_
      rintro e w2 ⟨rfl, hB2⟩
      have HE := hide ((unhide HB).trans ((unhide HU).trans (hB2.mono (unhide HU).size) |>.mono (unhide HB).size))
      clear HN hB2 HB HU
      go_wp2_with fail
      go_ret2
      exact ⟨rfl, unhide HE⟩
    · rw [show findA es p d = 0 by unfold findA; rw [if_pos hp, if_neg hi], show findE es p d = 33 by unfold findE; rw [if_pos hp, if_neg hi]]
      have eI : idxA (fdI es p d) es.length = -1 := if_neg hi
      rw [eI] at HN
      clear hp hi eI
      go_enter Try.func25, Try.ntmps25
      go_wp2_with fail
      refine (unhide HP _).mono ?_
      rintro e w1 ⟨rfl, rfl⟩
      go_wp2_with fail
      refine (unhide HO).mono ?_
      rintro e w1 ⟨rfl, hB1⟩
      have HU := hide hB1
      clear hB1 HO
      go_wp2_with fail
      refine (unhide HN _ (unhide HU)).mono ?_
      rintro e w2 ⟨rfl, hB2⟩
      have HE := hide ((unhide HB).trans ((unhide HU).trans (hB2.mono (unhide HU).size) |>.mono (unhide HB).size))
      clear HN hB2 HB HU
      go_wp2_with fail
      go_ret2
      exact ⟨rfl, unhide HE⟩
  · rw [show findA es p d = 0 by unfold findA; rw [if_neg hp], show findE es p d = 1 by unfold findE; rw [if_neg hp]]
    rw [show isP p = false by simpa using hp] at HP
    clear hp HN HO
    go_enter Try.func25, Try.ntmps25
    go_wp2_with fail
    refine (unhide HP _).mono ?_
    rintro e w1 ⟨rfl, rfl⟩
    go_wp2_with fail
    go_ret2
    exact ⟨rfl, unhide HB⟩

/-- The descriptor j of p is open. -/
def used (es : List Op) (p : Int) (j : Nat) : Bool := es.any (isPd p j)
theorem any_take {es : List Op} {P : Op → Bool} {k : Nat} (h : ∀ i o, i < k → es[i]? = some o → P o = false) (hk : es.length ≤ k) : es.any P = false := by
  rw [List.any_eq_false]
  intro o ho
  obtain ⟨i, hi, rfl⟩ := List.mem_iff_getElem.1 ho
  rw [h i _ (by omega) (List.getElem?_eq_getElem hi)]; simp

set_option maxRecDepth 100000 in
set_option maxHeartbeats 2000000 in
theorem lowest_any (b n L : Nat) (es : List Op) (p : Int) (w : World) (h : Tb w b n es) (hL : ∀ j, j < L → used es p j = true) (hN : used es p L = false) (hL1 : L ≤ 1000) :
    Calls Try.prog 24 #[.pointer (some ⟨b, 0, none⟩), I p] w fun e w' => e = .returned (I L) ∧ Below w.heap.size w w' := by
  have HT := hide h
  have HL := hide hL
  have HN := hide hN
  have HO := hide (fun (U : World) (hU : Below w.heap.size w U) => open_any b n es.length es U (h.below hU) rfl)
  have h64 := h.c64
  clear h hL hN
  go_enter Try.func24, Try.ntmps24
  go_wp2_with fail
  go_step3
  go_wp2_with fail
  go_step3
  go_wp2_with fail
  go_loopw [5] (fun v wr => ∃ k : Nat, v = I k ∧ k ≤ L ∧ Below w.heap.size w wr) (fun v _ => L - (intOf v).toNat)
  case atStart => exact ⟨0, rfl, Nat.zero_le _, Below.refl _ _⟩
  case round =>
    obtain ⟨k, rfl, hk, hb⟩ := hrel
    have HB := hide hb
    clear hb
    go_wp2_with fail
    refine (unhide HO _ (unhide HB)).mono ?_
    rintro e w1 ⟨rfl, hB1⟩
    have HB1 := hide ((unhide HB).trans (hB1.mono (unhide HB).size))
    clear hB1 HB
    generalize hc : es.length = c at *
    have HC := hide hc
    clear hc
    go_wp2_with fail
    go_loopw [5, 11] (fun v i wr => v = I k ∧ ∃ j : Nat, i = I j ∧ j ≤ c ∧ (∀ i o, i < j → es[i]? = some o → isPd p k o = false) ∧ Below w.heap.size w wr) (fun _ i _ => c - (intOf i).toNat)
    case atStart => exact ⟨rfl, 0, rfl, Nat.zero_le _, fun i o hi => absurd hi (Nat.not_lt_zero i), unhide HB1⟩
    case round =>
      obtain ⟨rfl, j, rfl, hj, hA, hb⟩ := hrel
      by_cases hjc : j < c
      · obtain ⟨o, ho⟩ : ∃ o, es[j]? = some o := ⟨_, List.getElem?_eq_getElem (by rw [unhide HC]; exact hjc)⟩
        obtain ⟨c0, c1, c2, c3, c4, c5⟩ := ((unhide HT).below hb).file ho
        have j1 : (j : Int) < (c : Int) := by omega
        have j0 : (0 : Int) ≤ (j : Int) := by omega
        obtain ⟨V, hV, ⟨v0, v1, v2, v3, v4, v5⟩, hBV, hsV⟩ := boxed6 wr o
        have HBV := hide (hb.trans (hBV.mono hb.size))
        have HA := hide hA
        have HQ := hide ho
        clear ho hA hBV hsV hb
        cases hp : (o.p == p)
        · go_wp2_with fail
          go_roundw
          case rel => 
            refine ⟨rfl, j + 1, by go_num, by omega, fun i o' hi ho' => ?_, unhide HBV⟩
            by_cases e : i = j
            · subst e
              have := unhide HQ
              rw [this] at ho'
              cases ho'
              simp [isPd, hp]
            · exact unhide HA i o' (by omega) ho'
          case measure => simp [intOf]; omega
        · cases hd : (o.d == (k : Int))
          · go_wp2_with fail
            go_roundw
            case rel => 
              refine ⟨rfl, j + 1, by go_num, by omega, fun i o' hi ho' => ?_, unhide HBV⟩
              by_cases e : i = j
              · subst e
                have := unhide HQ
                rw [this] at ho'
                cases ho'
                simp [isPd, hd]
              · exact unhide HA i o' (by omega) ho'
            case measure => simp [intOf]; omega
          · have hkL : k < L := by
              by_cases e : k = L
              · subst e
                have := unhide HN
                unfold used at this
                rw [List.any_eq_false] at this
                exact absurd (by simp [isPd, hp, hd]) (this o (List.mem_of_getElem? (unhide HQ)))
              · omega
            go_wp2_with fail
            go_roundw
            case rel => exact ⟨k + 1, by go_num, by omega, unhide HBV⟩
            case measure => simp [intOf]; omega
      · obtain rfl : j = c := by omega
        have HE := hide hb
        have hkL : k = L := by
          by_cases e : k = L
          · exact e
          · have h1 := unhide HL k (by omega)
            have h2 := any_take hA (by rw [unhide HC]; exact Nat.le_refl _)
            unfold used at h1
            rw [h1] at h2
            cases h2
        subst hkL
        clear hA hb
        go_wp2_with fail
        rw [Exit.noGoto_ret]
        go_ret
        exact ⟨rfl, unhide HE⟩
end Go.Proofs.Ytocaonbmijmbmaa
