/-
  The contracts of Same (of numbers), of Within, and of known: chapter 4's first run.
-/
import Derived.Test.YtkgcgfnleabkdaaOps
namespace Go.Proofs.Ytkgcgfnleabkdaa
open Go.RowKit
attribute [local go_sem ↓] Go.wp_at_zero Go.wp_at_succ

/-- A slice of these numbers. -/
def Rd (W : World) (v : Value) (xs : List Int) : Prop := ∃ a cap, v = .slice a xs.length cap ∧ (xs ≠ [] → ∃ g, a = some ⟨g, 0, none⟩ ∧ ∀ (j : Nat) (x : Int), xs[j]? = some x → W.cell? ⟨g, j, none⟩ = some (.int .i64 x) ∧ g < W.heap.size)
theorem Rd.of_own {W : World} {base n : Nat} {e : TypeId} {v : Value} {xs : List Int} (h : W.ownsRow base e 1 v n (ints xs)) : Rd W v xs := by
  obtain rfl : n = xs.length := by have := h.1; simp [ints] at this; omega
  obtain ⟨a, cap, rfl⟩ := own_form h
  refine ⟨a, cap, rfl, fun hne => ?_⟩
  obtain ⟨g, cap', cur, e1, _, hgg, _, _, _, hx⟩ := own_open h (by simpa using hne)
  simp only [Value.slice.injEq] at e1
  refine ⟨g, e1.1, fun j x hj => ⟨hx j _ (by simp [ints, hj]), lt_of_heap hgg⟩⟩
theorem Rd.below {W W' : World} {v : Value} {xs : List Int} (h : Rd W v xs) (hB : Below W.heap.size W W') : Rd W' v xs := by
  obtain ⟨a, cap, rfl, hx⟩ := h
  refine ⟨a, cap, rfl, fun hne => ?_⟩
  obtain ⟨g, rfl, hc⟩ := hx hne
  refine ⟨g, rfl, fun j x hj => ?_⟩
  obtain ⟨h1, h2⟩ := hc j x hj
  exact ⟨(World.cell?_of_block (a := ⟨g, j, none⟩) (hB.block g h2)).trans h1, Nat.lt_of_lt_of_le h2 hB.size⟩
theorem Rd.nil (W : World) : Rd W (.slice none 0 0) [] := ⟨none, 0, rfl, fun h => absurd rfl h⟩
theorem Rd.one (W : World) (x : Int) (t : TypeId) : Rd (W.alloc (.cells #[.int .i64 x] t)) (.slice (some ⟨W.heap.size, 0, none⟩) 1 1) [x] := by
  refine ⟨_, 1, rfl, fun _ => ⟨W.heap.size, rfl, fun j y hj => ?_⟩⟩
  match j, hj with
  | 0, hj => simp at hj; subst hj; exact ⟨by rw [cell_of (putAll (w := W) (.cells #[.int .i64 x] t) W.heap.size rfl)]; rfl, by simp⟩
theorem Rd.form {W : World} {v : Value} {xs : List Int} (h : Rd W v xs) : ∃ a cap, v = .slice a xs.length cap := by obtain ⟨a, cap, h, _⟩ := h; exact ⟨a, cap, h⟩

set_option maxRecDepth 100000 in
set_option maxHeartbeats 1000000 in
theorem same64 (va vb : Value) (xs ys : List Int) (w : World) (ha : Rd w va xs) (hb : Rd w vb ys) (hl : xs.length ≤ 1000) :
    Calls Try.prog 14 #[va, vb] w fun e w' => e = .returned (.bool (decide (xs = ys))) ∧ Below w.heap.size w w' := by
  obtain ⟨a, cap, rfl, hxa⟩ := ha
  obtain ⟨a2, cap2, rfl, hxb⟩ := hb
  by_cases hle : xs.length = ys.length
  · by_cases hz : xs = []
    · subst hz
      obtain rfl : ys = [] := List.length_eq_zero_iff.1 hle.symm
      clear hxa hxb hl
      simp only [List.length_nil]
      go_enter Try.func14, Try.ntmps14
      go_wp2_with fail
      go_loopw [5] (fun i wr => i = .int .i64 0 ∧ wr = w) (fun _ _ => 0)
      case atStart => exact ⟨rfl, rfl⟩
      case round =>
        obtain ⟨rfl, rfl⟩ := hrel
        go_wp2_with fail
        go_ret
        exact ⟨by simp, Below.refl _ _⟩
    · obtain ⟨g, ea, hya⟩ := hxa hz
      obtain ⟨g2, eb, hyb⟩ := hxb (by rintro rfl; simp at hle; exact hz hle)
      clear hxa hxb
      subst ea eb
      have HA := hide hya
      have HB := hide hyb
      generalize hlx : xs.length = l at *
      rw [← hle]
      have HL := hide hlx
      have HL2 := hide hle
      clear hya hyb hlx hle
      go_enter Try.func14, Try.ntmps14
      go_wp2_with fail
      go_loopw [5] (fun i wr => ∃ k : Nat, k ≤ l ∧ i = .int .i64 k ∧ xs.take k = ys.take k ∧ Below w.heap.size w wr) (fun i _ => l - (intOf i).toNat)
      case atStart => exact ⟨0, Nat.zero_le _, rfl, by simp, Below.refl _ _⟩
      case round =>
        obtain ⟨k, hk, rfl, he, hB1⟩ := hrel
        by_cases hkn : k < l
        · obtain ⟨x, hx⟩ : ∃ x, xs[k]? = some x := ⟨_, List.getElem?_eq_getElem (by rw [unhide HL]; exact hkn)⟩
          obtain ⟨y, hy⟩ : ∃ y, ys[k]? = some y := ⟨_, List.getElem?_eq_getElem (by rw [← unhide HL2]; exact hkn)⟩
          have c1 := (World.cell?_of_block (a := ⟨g, k, none⟩) (hB1.block g (unhide HA k x hx).2)).trans (unhide HA k x hx).1
          have c2 := (World.cell?_of_block (a := ⟨g2, k, none⟩) (hB1.block g2 (unhide HB k y hy).2)).trans (unhide HB k y hy).1
          have j1 : (k : Int) < (l : Int) := by omega
          have j0 : (0 : Int) ≤ (k : Int) := by omega
          by_cases hxy : x = y
          · subst hxy
            have hn : xs.take (k + 1) = ys.take (k + 1) := by rw [List.take_add_one, List.take_add_one, hx, hy, he]
            have HN := hide hn
            clear hn hx hy he
            go_wp2_with fail
            go_quiet (fail)
            go_wp2_with fail
            go_roundw
            case rel => exact ⟨k + 1, by omega, by go_num, unhide HN, below_dn hB1 _⟩
            case measure => simp [intOf]; omega
          · have hn : xs ≠ ys := by rintro rfl; rw [hx] at hy; exact hxy (Option.some.inj hy)
            have HN := hide hn
            have hxy2 : (x == y) = false := by simpa using hxy
            clear hn hx hy he
            go_wp2_with fail
            go_quiet (fail)
            go_wp2_with fail
            go_ret
            exact ⟨by simp [unhide HN], below_dn hB1 _⟩
        · obtain rfl : k = l := by omega
          have hn : xs = ys := by rw [List.take_of_length_le (Nat.le_of_eq (unhide HL)), List.take_of_length_le (Nat.le_of_eq (unhide HL2).symm)] at he; exact he
          have HN := hide hn
          clear hn he
          go_wp2_with fail
          go_ret
          exact ⟨by simp [unhide HN], hB1⟩
  · have hn : xs ≠ ys := by rintro rfl; exact hle rfl
    generalize hlx : xs.length = l at *
    generalize hly : ys.length = l2 at *
    have hne : ¬ (l : Int) = (l2 : Int) := by omega
    clear hxa hxb hlx hly
    go_enter Try.func14, Try.ntmps14
    go_wp2_with fail
    go_ret
    exact ⟨by simp [hn], Below.refl _ _⟩

set_option maxRecDepth 100000 in
set_option maxHeartbeats 1000000 in
theorem same32 (va vb : Value) (xs ys : List Int) (w : World) (ha : Rd w va xs) (hb : Rd w vb ys) (hl : xs.length ≤ 1000) :
    Calls Try.prog 15 #[va, vb] w fun e w' => e = .returned (.bool (decide (xs = ys))) ∧ Below w.heap.size w w' := by
  obtain ⟨a, cap, rfl, hxa⟩ := ha
  obtain ⟨a2, cap2, rfl, hxb⟩ := hb
  by_cases hle : xs.length = ys.length
  · by_cases hz : xs = []
    · subst hz
      obtain rfl : ys = [] := List.length_eq_zero_iff.1 hle.symm
      clear hxa hxb hl
      simp only [List.length_nil]
      go_enter Try.func15, Try.ntmps15
      go_wp2_with fail
      go_loopw [5] (fun i wr => i = .int .i64 0 ∧ wr = w) (fun _ _ => 0)
      case atStart => exact ⟨rfl, rfl⟩
      case round =>
        obtain ⟨rfl, rfl⟩ := hrel
        go_wp2_with fail
        go_ret
        exact ⟨by simp, Below.refl _ _⟩
    · obtain ⟨g, ea, hya⟩ := hxa hz
      obtain ⟨g2, eb, hyb⟩ := hxb (by rintro rfl; simp at hle; exact hz hle)
      clear hxa hxb
      subst ea eb
      have HA := hide hya
      have HB := hide hyb
      generalize hlx : xs.length = l at *
      rw [← hle]
      have HL := hide hlx
      have HL2 := hide hle
      clear hya hyb hlx hle
      go_enter Try.func15, Try.ntmps15
      go_wp2_with fail
      go_loopw [5] (fun i wr => ∃ k : Nat, k ≤ l ∧ i = .int .i64 k ∧ xs.take k = ys.take k ∧ Below w.heap.size w wr) (fun i _ => l - (intOf i).toNat)
      case atStart => exact ⟨0, Nat.zero_le _, rfl, by simp, Below.refl _ _⟩
      case round =>
        obtain ⟨k, hk, rfl, he, hB1⟩ := hrel
        by_cases hkn : k < l
        · obtain ⟨x, hx⟩ : ∃ x, xs[k]? = some x := ⟨_, List.getElem?_eq_getElem (by rw [unhide HL]; exact hkn)⟩
          obtain ⟨y, hy⟩ : ∃ y, ys[k]? = some y := ⟨_, List.getElem?_eq_getElem (by rw [← unhide HL2]; exact hkn)⟩
          have c1 := (World.cell?_of_block (a := ⟨g, k, none⟩) (hB1.block g (unhide HA k x hx).2)).trans (unhide HA k x hx).1
          have c2 := (World.cell?_of_block (a := ⟨g2, k, none⟩) (hB1.block g2 (unhide HB k y hy).2)).trans (unhide HB k y hy).1
          have j1 : (k : Int) < (l : Int) := by omega
          have j0 : (0 : Int) ≤ (k : Int) := by omega
          by_cases hxy : x = y
          · subst hxy
            have hn : xs.take (k + 1) = ys.take (k + 1) := by rw [List.take_add_one, List.take_add_one, hx, hy, he]
            have HN := hide hn
            clear hn hx hy he
            go_wp2_with fail
            go_quiet (fail)
            go_wp2_with fail
            go_roundw
            case rel => exact ⟨k + 1, by omega, by go_num, unhide HN, below_dn hB1 _⟩
            case measure => simp [intOf]; omega
          · have hn : xs ≠ ys := by rintro rfl; rw [hx] at hy; exact hxy (Option.some.inj hy)
            have HN := hide hn
            have hxy2 : (x == y) = false := by simpa using hxy
            clear hn hx hy he
            go_wp2_with fail
            go_quiet (fail)
            go_wp2_with fail
            go_ret
            exact ⟨by simp [unhide HN], below_dn hB1 _⟩
        · obtain rfl : k = l := by omega
          have hn : xs = ys := by rw [List.take_of_length_le (Nat.le_of_eq (unhide HL)), List.take_of_length_le (Nat.le_of_eq (unhide HL2).symm)] at he; exact he
          have HN := hide hn
          clear hn he
          go_wp2_with fail
          go_ret
          exact ⟨by simp [unhide HN], hB1⟩
  · have hn : xs ≠ ys := by rintro rfl; exact hle rfl
    generalize hlx : xs.length = l at *
    generalize hly : ys.length = l2 at *
    have hne : ¬ (l : Int) = (l2 : Int) := by omega
    clear hxa hxb hlx hly
    go_enter Try.func15, Try.ntmps15
    go_wp2_with fail
    go_ret
    exact ⟨by simp [hn], Below.refl _ _⟩

set_option maxHeartbeats 400000 in
theorem within_any (v hi : Int) (w : World) (h0 : 0 ≤ hi) (h1 : hi ≤ 1000) :
    Calls Try.prog 27 #[.int .i64 v, .int .i64 0, .int .i64 hi] w fun e w' => (∃ r : Nat, (r : Int) ≤ hi ∧ e = .returned (.int .i64 (r : Int))) ∧ w' = w := by
  have t1 : v.tmod (hi + 1) < hi + 1 := Int.tmod_lt_of_pos v (by omega)
  have t2 : -(hi + 1) < v.tmod (hi + 1) := by
    have h := Int.tmod_lt_of_pos (-v) (show 0 < hi + 1 by omega)
    rw [Int.neg_tmod] at h
    omega
  have t3 : ¬ hi + 1 = 0 := by omega
  by_cases hn : v.tmod (hi + 1) < 0
  · obtain ⟨r, hr⟩ : ∃ r : Nat, v.tmod (hi + 1) + hi + 1 = (r : Int) := ⟨(v.tmod (hi + 1) + hi + 1).toNat, by omega⟩
    have HR := hide hr
    clear hr
    go_enter Try.func27, Try.ntmps27
    go_wp2
    go_ret
    exact ⟨⟨r, by have := unhide HR; omega, by rw [← unhide HR]; simp⟩, rfl⟩
  · obtain ⟨r, hr⟩ : ∃ r : Nat, v.tmod (hi + 1) = (r : Int) := ⟨(v.tmod (hi + 1)).toNat, by omega⟩
    have HR := hide hr
    clear hr
    go_enter Try.func27, Try.ntmps27
    go_wp2
    go_ret
    exact ⟨⟨r, by have := unhide HR; omega, by rw [← unhide HR]; simp⟩, rfl⟩

set_option maxRecDepth 100000 in
set_option maxHeartbeats 1000000 in
theorem known_true (w : World) : Calls Try.prog 18 #[] w fun e w' => e = .returned (.bool true) ∧ Below w.heap.size w w' := by
  go_enter Try.func18, Try.ntmps18
  go_wp2_with fail
  refine (new_good 2 (by omega) (by omega) w).mono ?_
  rintro e w1 ⟨rfl, G1, hB1⟩
  generalize hh : w.heap.size = h at *
  have HH := hide hh
  clear hh
  go_wp2_with fail
  refine (enter_yes h (h + 1) h 2 0 0 [0, 0] [] w1 G1 rfl (by omega) (by omega)).mono ?_
  rintro e w2 ⟨rfl, G2, F2⟩
  go_wp2_with fail
  refine (defer_ok h (h + 1) h 2 7 _ [] w2 G2 (by simp)).mono ?_
  rintro e w3 ⟨rfl, G3, F3⟩
  go_wp2_with fail
  refine (poll_all h (h + 1) h 2 _ _ w3 G3 (by simp)).mono ?_
  rintro e w4 ⟨v4, rfl, own4, G4, F4⟩
  obtain ⟨a4, c4, rfl⟩ := own_form own4
  go_wp2_with fail
  refine (leave_out h (h + 1) h 2 0 _ _ w4 G4 (by decide) rfl).mono ?_
  rintro e w5 ⟨rfl, G5, F5⟩
  go_wp2_with fail
  refine (poll_all h (h + 1) h 2 _ _ w5 G5 (by decide)).mono ?_
  rintro e w6 ⟨v6, rfl, own6, G6, F6⟩
  have R6 := Rd.of_own own6
  have hB := (((((hB1.trans F2.below).trans F3.below).trans F4.below).trans F5.below).trans F6.below)
  have e7 : idsOf (free (List.map (clr 0) (held ([] ++ [⟨7, ins (List.set [0, 0] 0 (0 + 1))⟩])))) = [7] := by decide
  rw [e7] at R6
  clear own4 own6 F2 F3 F4 F5 F6 G1 G2 G3 G4 G5 G6 hB1 e7
  have hS := same64 v6 _ [7] [7] (w6.alloc (.cells #[.int .i64 7] 2)) (R6.below ((Below.refl _ _).alloc (Nat.le_refl _) _)) (Rd.one w6 7 2) (by simp)
  have HS := hide hS
  have HB := hide (hB.alloc (by have := hB.size; have := unhide HH; omega) (.cells #[.int .i64 7] 2))
  clear hS R6 hB
  go_wp2_with fail
  refine (unhide HS).mono ?_
  rintro e w7 ⟨rfl, hB7⟩
  go_wp2_with fail
  go_ret
  exact ⟨by simp, by rw [unhide HH]; exact (unhide HB).trans (hB7.mono (by have := (unhide HB).size; have := unhide HH; omega))⟩
end Go.Proofs.Ytkgcgfnleabkdaa
