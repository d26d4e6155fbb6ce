/-
  CallTexts' walk.
-/
import Derived.Test.YtnkkfomekdipiaaDoorCIn
namespace Go.Proofs.YtnkkfomekdipiaaDoor.Cl
open Go.RowKit
attribute [local go_sem ↓] Go.wp_at_zero Go.wp_at_succ

abbrev cx (a : List UInt8) : Cc := ⟨1, a, [], 0, 0, 0, 0, 0, []⟩
/-- Mkdir of a path, as a line. -/
def lx (a : List UInt8) : List UInt8 := [109, 107, 100, 105, 114] ++ seg (decide (0 < a.length)) [] (plain a)
theorem cx_line (a : List UInt8) : (cx a).line = lx a := by
  have e : opn 1 = [109, 107, 100, 105, 114] := by decide +kernel
  have h : ∀ wd, nums wd 0 = [] := fun wd => by simp [nums, seg]
  have h2 : ∀ wd, txts wd [] = [] := fun wd => by simp [txts, seg]
  unfold Cc.line lx
  simp only [e, h, h2, List.append_nil]
theorem hx_inj : ∀ i j : Fin 16, hx i.val = hx j.val → i = j := by decide +kernel
theorem hx_ok : ∀ i : Fin 16, 32 ≤ (hx i.val).toNat ∧ (hx i.val).toNat ≤ 126 := by decide +kernel
theorem esc_ok (c : UInt8) : ∀ b ∈ esc c, 32 ≤ b.toNat ∧ b.toNat ≤ 126 := by
  intro b hb
  have hc := c.toNat_lt
  unfold esc at hb
  split at hb
  · rename_i h
    obtain ⟨h1, h2, -⟩ := plain_t h
    simp at hb
    subst hb
    omega
  · simp at hb
    rcases hb with rfl | rfl | rfl
    · decide
    · exact hx_ok ⟨c.toNat / 16, by omega⟩
    · exact hx_ok ⟨c.toNat % 16, by omega⟩
theorem lx_ok (a : List UInt8) : ∀ b ∈ lx a, 32 ≤ b.toNat ∧ b.toNat ≤ 126 := by
  intro b hb
  unfold lx seg at hb
  rw [List.mem_append] at hb
  rcases hb with hb | hb
  · have h : ∀ b ∈ ([109, 107, 100, 105, 114] : List UInt8), 32 ≤ b.toNat ∧ b.toNat ≤ 126 := by decide
    exact h b hb
  · split at hb
    · rw [List.mem_cons, List.nil_append] at hb
      rcases hb with rfl | hb
      · decide
      · obtain ⟨c, -, h2⟩ := List.mem_flatMap.1 hb
        exact esc_ok c b h2
    · simp at hb
theorem plain_cons (c : UInt8) (l : List UInt8) : plain (c :: l) = esc c ++ plain l := by simp [plain]
theorem esc_inj (c d : UInt8) (l m : List UInt8) (h : esc c ++ l = esc d ++ m) : c = d ∧ l = m := by
  have hc := c.toNat_lt
  have hd := d.toNat_lt
  unfold esc at h
  split at h
  · split at h
    · simpa using h
    · rename_i h1 _
      simp at h
      have := (plain_t h1).2.2
      rw [h.1] at this
      exact absurd rfl this
  · split at h
    · rename_i h1
      simp at h
      have := (plain_t h1).2.2
      rw [← h.1] at this
      exact absurd rfl this
    · simp at h
      obtain ⟨h1, h2, h3⟩ := h
      have e1 := congrArg Fin.val (hx_inj ⟨c.toNat / 16, by omega⟩ ⟨d.toNat / 16, by omega⟩ h1)
      have e2 := congrArg Fin.val (hx_inj ⟨c.toNat % 16, by omega⟩ ⟨d.toNat % 16, by omega⟩ h2)
      simp only at e1 e2
      exact ⟨UInt8.toNat_inj.1 (by omega), h3⟩
theorem plain_inj : ∀ (a b : List UInt8), plain a = plain b → a = b
  | [], [], _ => rfl
  | [], d :: m, h => by
    have := congrArg List.length h
    rw [plain_cons, List.length_append] at this
    have h2 : 0 < (esc d).length := by unfold esc; split <;> simp
    have e : (plain ([] : List UInt8)).length = 0 := rfl
    rw [e] at this
    omega
  | c :: l, [], h => by
    have := congrArg List.length h
    rw [plain_cons, List.length_append] at this
    have h2 : 0 < (esc c).length := by unfold esc; split <;> simp
    have e : (plain ([] : List UInt8)).length = 0 := rfl
    rw [e] at this
    omega
  | c :: l, d :: m, h => by
    rw [plain_cons, plain_cons] at h
    obtain ⟨rfl, h2⟩ := esc_inj c d _ _ h
    rw [plain_inj l m h2]
theorem lx_inj (a b : List UInt8) (h : lx a = lx b) : a = b := by
  unfold lx at h
  have h1 := List.append_cancel_left h
  unfold seg at h1
  cases a with
  | nil =>
    cases b with
    | nil => rfl
    | cons d m => simp at h1
  | cons c l =>
    cases b with
    | nil => simp at h1
    | cons d m =>
      simp at h1
      exact plain_inj _ _ h1
theorem lx_len (a : List UInt8) (h : a.length ≤ 300) : (lx a).length ≤ 1000 := by
  have := plain_len a
  have := seg_len (decide (0 < a.length)) [] (plain a)
  unfold lx
  simp only [List.length_append, List.length_cons, List.length_nil] at *
  omega
theorem text_c (a : List UInt8) (ha : a.length ≤ 300) (w : World) (hL : Lai w) :
    Calls Tryd.prog 12 #[.agg #[I 1, S a, .string ⟨#[]⟩, I 0, I 0, I 0, I 0, I 0, .slice none 0 0]] w fun e w' => e = .returned (S (lx a)) ∧ Below w.heap.size w w' := by
  have hf : (cx a).fits := ⟨fun k => by
    have : (cx a).num k = 0 := by
      match k with
      | 0 => rfl
      | 1 => rfl
      | 2 => rfl
      | 3 => rfl
      | (j + 4) => rfl
    rw [this]
    decide, by simp; omega⟩
  have h := text_any' (cx a) hf none 0 0 rfl w hL.on hL.pos hL.tab (By.nil _ _ _)
  rw [cx_line] at h
  exact h
theorem ext300 (a : List UInt8) : (bs a).extract 0 300 = bs (a.take 300) := by
  apply ByteArray.ext
  simp [ByteArray.data_extract]
theorem lx_eq (a b : List UInt8) : (lx a == lx b) = (a == b) := by
  by_cases h : a = b
  · subst h
    simp
  · have h2 : ¬ lx a = lx b := fun e => h (lx_inj a b e)
    rw [beq_eq_false_iff_ne.2 h, beq_eq_false_iff_ne.2 h2]
set_option maxRecDepth 100000 in
set_option maxHeartbeats 2000000 in
theorem texts_walk (a b : List UInt8) (w : World) (ha : a.length ≤ maxLen) (hb : b.length ≤ maxLen) (hL : Lai w) :
    Calls Tryd.prog 7 #[S a, S b] w fun e w' => e = .returned (.bool true) ∧ Below w.heap.size w w' := by
  have hmx : maxLen ≤ 9223372036854775807 := by decide
  have ha2 : (a.length : Int) ≤ 9223372036854775807 := by omega
  have hb2 : (b.length : Int) ≤ 9223372036854775807 := by omega
  have HL := hide (show ∀ W, Below w.heap.size w W → Lai W from fun W g => hL.below g)
  clear hmx
  by_cases h1 : 300 < a.length
  · by_cases h2 : 300 < b.length
    · have hA : (a.take 300).length ≤ 300 := by simp; omega
      have hB : (b.take 300).length ≤ 300 := by simp; omega
      have HA := hide (show ∀ W, Lai W → _ from fun W h => text_c (a.take 300) hA W h)
      have HB := hide (show ∀ W, Lai W → _ from fun W h => text_c (b.take 300) hB W h)
      have hXl := lx_len (a.take 300) hA
      have HX := hide (lx_ok (a.take 300))
      have n1 := lx_eq (a.take 300) (b.take 300)
      have eA := ext300 a
      have eB := ext300 b
      have ja : (300 : Int) < (a.length : Int) := by omega
      have jb : (300 : Int) < (b.length : Int) := by omega
      clear hA hB ha hb hL
      go_enter Tryd.func7, Tryd.ntmps7
      go_wp2_with fail
      refine (unhide HA _ (unhide HL _ (Below.refl _ _))).mono ?_
      rintro e W1 ⟨rfl, be1⟩
      have HB1 := hide be1
      clear be1
      go_wp2_with fail
      refine (unhide HB _ (unhide HL _ (unhide HB1))).mono ?_
      rintro e W2 ⟨rfl, be2⟩
      have HB2 := hide ((unhide HB1).trans (be2.mono (unhide HB1).size))
      clear be2 HB1 HA HB
      generalize hX : lx (a.take 300) = X at *
      replace hX := hide hX
      go_wp2_with fail
      go_loopw [7] (fun i wr => ∃ k : Nat, k ≤ X.length ∧ i = .int .i64 k ∧ wr = W2) (fun i _ => X.length - (intOf i).toNat)
      case atStart => exact ⟨0, Nat.zero_le _, rfl, rfl⟩
      case round =>
        obtain ⟨k, hk, rfl, rfl⟩ := hrel
        by_cases hkt : k < X.length
        · have j1 : (k : Int) < (X.length : Int) := by omega
          have j0 : (0 : Int) ≤ (k : Int) := by omega
          have j2 : (k : Int) < 1000 := by omega
          obtain ⟨c, hc⟩ : ∃ c, c = X[k].toNat := ⟨_, rfl⟩
          have hxc : ∀ hh : k < (bs X).size, ((bs X)[k]'hh).toNat = c := fun hh => by rw [hc]; rfl
          obtain ⟨o1, o2⟩ := unhide HX X[k] (List.getElem_mem hkt)
          rw [← hc] at o1 o2
          have q1 : ¬ (c : Int) < 32 := by omega
          have q2 : ¬ (126 : Int) < (c : Int) := by omega
          clear hc o1 o2
          go_wp2_with fail
          exact ⟨⟨k + 1, by omega, by go_num, trivial⟩, by simp [intOf]; omega⟩
        · obtain rfl : k = X.length := by omega
          have j1 : ¬ (X.length : Int) < (X.length : Int) := by omega
          go_wp2_with fail
          have L1 := unhide HL _ (unhide HB2)
          refine (known_any _ L1.on L1.pos L1.tab).mono ?_
          rintro e W4 ⟨rfl, be4⟩
          have HB4 := hide ((unhide HB2).trans (be4.mono (unhide HB2).size))
          clear be4 HB2
          go_wp2_with fail
          go_ret
          exact ⟨rfl, unhide HB4⟩
    · have hA : (a.take 300).length ≤ 300 := by simp; omega
      have hB : b.length ≤ 300 := by omega
      have HA := hide (show ∀ W, Lai W → _ from fun W h => text_c (a.take 300) hA W h)
      have HB := hide (show ∀ W, Lai W → _ from fun W h => text_c b hB W h)
      have hXl := lx_len (a.take 300) hA
      have HX := hide (lx_ok (a.take 300))
      have n1 := lx_eq (a.take 300) b
      have eA := ext300 a
      have ja : (300 : Int) < (a.length : Int) := by omega
      have jb : ¬ (300 : Int) < (b.length : Int) := by omega
      clear hA hB ha hb hL
      go_enter Tryd.func7, Tryd.ntmps7
      go_wp2_with fail
      refine (unhide HA _ (unhide HL _ (Below.refl _ _))).mono ?_
      rintro e W1 ⟨rfl, be1⟩
      have HB1 := hide be1
      clear be1
      go_wp2_with fail
      refine (unhide HB _ (unhide HL _ (unhide HB1))).mono ?_
      rintro e W2 ⟨rfl, be2⟩
      have HB2 := hide ((unhide HB1).trans (be2.mono (unhide HB1).size))
      clear be2 HB1 HA HB
      generalize hX : lx (a.take 300) = X at *
      replace hX := hide hX
      go_wp2_with fail
      go_loopw [7] (fun i wr => ∃ k : Nat, k ≤ X.length ∧ i = .int .i64 k ∧ wr = W2) (fun i _ => X.length - (intOf i).toNat)
      case atStart => exact ⟨0, Nat.zero_le _, rfl, rfl⟩
      case round =>
        obtain ⟨k, hk, rfl, rfl⟩ := hrel
        by_cases hkt : k < X.length
        · have j1 : (k : Int) < (X.length : Int) := by omega
          have j0 : (0 : Int) ≤ (k : Int) := by omega
          have j2 : (k : Int) < 1000 := by omega
          obtain ⟨c, hc⟩ : ∃ c, c = X[k].toNat := ⟨_, rfl⟩
          have hxc : ∀ hh : k < (bs X).size, ((bs X)[k]'hh).toNat = c := fun hh => by rw [hc]; rfl
          obtain ⟨o1, o2⟩ := unhide HX X[k] (List.getElem_mem hkt)
          rw [← hc] at o1 o2
          have q1 : ¬ (c : Int) < 32 := by omega
          have q2 : ¬ (126 : Int) < (c : Int) := by omega
          clear hc o1 o2
          go_wp2_with fail
          exact ⟨⟨k + 1, by omega, by go_num, trivial⟩, by simp [intOf]; omega⟩
        · obtain rfl : k = X.length := by omega
          have j1 : ¬ (X.length : Int) < (X.length : Int) := by omega
          go_wp2_with fail
          have L1 := unhide HL _ (unhide HB2)
          refine (known_any _ L1.on L1.pos L1.tab).mono ?_
          rintro e W4 ⟨rfl, be4⟩
          have HB4 := hide ((unhide HB2).trans (be4.mono (unhide HB2).size))
          clear be4 HB2
          go_wp2_with fail
          go_ret
          exact ⟨rfl, unhide HB4⟩
  · by_cases h2 : 300 < b.length
    · have hA : a.length ≤ 300 := by omega
      have hB : (b.take 300).length ≤ 300 := by simp; omega
      have HA := hide (show ∀ W, Lai W → _ from fun W h => text_c a hA W h)
      have HB := hide (show ∀ W, Lai W → _ from fun W h => text_c (b.take 300) hB W h)
      have hXl := lx_len a hA
      have HX := hide (lx_ok a)
      have n1 := lx_eq a (b.take 300)
      have eB := ext300 b
      have ja : ¬ (300 : Int) < (a.length : Int) := by omega
      have jb : (300 : Int) < (b.length : Int) := by omega
      clear hA hB ha hb hL
      go_enter Tryd.func7, Tryd.ntmps7
      go_wp2_with fail
      refine (unhide HA _ (unhide HL _ (Below.refl _ _))).mono ?_
      rintro e W1 ⟨rfl, be1⟩
      have HB1 := hide be1
      clear be1
      go_wp2_with fail
      refine (unhide HB _ (unhide HL _ (unhide HB1))).mono ?_
      rintro e W2 ⟨rfl, be2⟩
      have HB2 := hide ((unhide HB1).trans (be2.mono (unhide HB1).size))
      clear be2 HB1 HA HB
      generalize hX : lx a = X at *
      replace hX := hide hX
      go_wp2_with fail
      go_loopw [7] (fun i wr => ∃ k : Nat, k ≤ X.length ∧ i = .int .i64 k ∧ wr = W2) (fun i _ => X.length - (intOf i).toNat)
      case atStart => exact ⟨0, Nat.zero_le _, rfl, rfl⟩
      case round =>
        obtain ⟨k, hk, rfl, rfl⟩ := hrel
        by_cases hkt : k < X.length
        · have j1 : (k : Int) < (X.length : Int) := by omega
          have j0 : (0 : Int) ≤ (k : Int) := by omega
          have j2 : (k : Int) < 1000 := by omega
          obtain ⟨c, hc⟩ : ∃ c, c = X[k].toNat := ⟨_, rfl⟩
          have hxc : ∀ hh : k < (bs X).size, ((bs X)[k]'hh).toNat = c := fun hh => by rw [hc]; rfl
          obtain ⟨o1, o2⟩ := unhide HX X[k] (List.getElem_mem hkt)
          rw [← hc] at o1 o2
          have q1 : ¬ (c : Int) < 32 := by omega
          have q2 : ¬ (126 : Int) < (c : Int) := by omega
          clear hc o1 o2
          go_wp2_with fail
          exact ⟨⟨k + 1, by omega, by go_num, trivial⟩, by simp [intOf]; omega⟩
        · obtain rfl : k = X.length := by omega
          have j1 : ¬ (X.length : Int) < (X.length : Int) := by omega
          go_wp2_with fail
          have L1 := unhide HL _ (unhide HB2)
          refine (known_any _ L1.on L1.pos L1.tab).mono ?_
          rintro e W4 ⟨rfl, be4⟩
          have HB4 := hide ((unhide HB2).trans (be4.mono (unhide HB2).size))
          clear be4 HB2
          go_wp2_with fail
          go_ret
          exact ⟨rfl, unhide HB4⟩
    · have hA : a.length ≤ 300 := by omega
      have hB : b.length ≤ 300 := by omega
      have HA := hide (show ∀ W, Lai W → _ from fun W h => text_c a hA W h)
      have HB := hide (show ∀ W, Lai W → _ from fun W h => text_c b hB W h)
      have hXl := lx_len a hA
      have HX := hide (lx_ok a)
      have n1 := lx_eq a b
      have ja : ¬ (300 : Int) < (a.length : Int) := by omega
      have jb : ¬ (300 : Int) < (b.length : Int) := by omega
      clear hA hB ha hb hL
      go_enter Tryd.func7, Tryd.ntmps7
      go_wp2_with fail
      refine (unhide HA _ (unhide HL _ (Below.refl _ _))).mono ?_
      rintro e W1 ⟨rfl, be1⟩
      have HB1 := hide be1
      clear be1
      go_wp2_with fail
      refine (unhide HB _ (unhide HL _ (unhide HB1))).mono ?_
      rintro e W2 ⟨rfl, be2⟩
      have HB2 := hide ((unhide HB1).trans (be2.mono (unhide HB1).size))
      clear be2 HB1 HA HB
      generalize hX : lx a = X at *
      replace hX := hide hX
      go_wp2_with fail
      go_loopw [7] (fun i wr => ∃ k : Nat, k ≤ X.length ∧ i = .int .i64 k ∧ wr = W2) (fun i _ => X.length - (intOf i).toNat)
      case atStart => exact ⟨0, Nat.zero_le _, rfl, rfl⟩
      case round =>
        obtain ⟨k, hk, rfl, rfl⟩ := hrel
        by_cases hkt : k < X.length
        · have j1 : (k : Int) < (X.length : Int) := by omega
          have j0 : (0 : Int) ≤ (k : Int) := by omega
          have j2 : (k : Int) < 1000 := by omega
          obtain ⟨c, hc⟩ : ∃ c, c = X[k].toNat := ⟨_, rfl⟩
          have hxc : ∀ hh : k < (bs X).size, ((bs X)[k]'hh).toNat = c := fun hh => by rw [hc]; rfl
          obtain ⟨o1, o2⟩ := unhide HX X[k] (List.getElem_mem hkt)
          rw [← hc] at o1 o2
          have q1 : ¬ (c : Int) < 32 := by omega
          have q2 : ¬ (126 : Int) < (c : Int) := by omega
          clear hc o1 o2
          go_wp2_with fail
          exact ⟨⟨k + 1, by omega, by go_num, trivial⟩, by simp [intOf]; omega⟩
        · obtain rfl : k = X.length := by omega
          have j1 : ¬ (X.length : Int) < (X.length : Int) := by omega
          go_wp2_with fail
          have L1 := unhide HL _ (unhide HB2)
          refine (known_any _ L1.on L1.pos L1.tab).mono ?_
          rintro e W4 ⟨rfl, be4⟩
          have HB4 := hide ((unhide HB2).trans (be4.mono (unhide HB2).size))
          clear be4 HB2
          go_wp2_with fail
          go_ret
          exact ⟨rfl, unhide HB4⟩
end Go.Proofs.YtnkkfomekdipiaaDoor.Cl
