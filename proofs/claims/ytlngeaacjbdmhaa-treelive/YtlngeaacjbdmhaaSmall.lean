/-
  The contracts of the small functions: Clone, Compare, Contains at one byte, Right, fits.
-/
import Derived.Test.YtlngeaacjbdmhaaTrA
import Derived.Test.YtlngeaacjbdmhaaShelf
import Derived.Deep.Draws
import Derived.Lib.Bytealg
import Derived.Lib.Strings
import Derived.Laws.Strings3
import Derived.Laws.Externs
namespace Go.Proofs.Ytlngeaacjbdmhaa
open Go.RowKit
attribute [local go_sem ↓] Go.wp_at_zero Go.wp_at_succ

abbrev bs (l : List UInt8) : ByteArray := ⟨l.toArray⟩
abbrev Sl' (l : List UInt8) : Value := .string (bs l)
set_option maxRecDepth 100000 in
set_option maxHeartbeats 2000000 in
theorem index_one (s : ByteArray) (c : UInt8) (w : World) :
    Calls Try.prog 73 #[.string s, .string ⟨#[c]⟩] w fun e w' => e = .returned (.int .i64 (Lib.indexByte s.data.toList c)) ∧ w' = w := by
  go_enter Try.func73, Try.ntmps73
  go_wp2_with (go_at_call 82; refine (Try.stringslite_IndexByte _ _ _).mono ?_; rintro e w' ⟨rfl, rfl⟩)
  · have h : ([c] == s.toList) = true := by assumption
    go_ret
    refine ⟨?_, rfl⟩
    have e : s.data.toList = [c] := by rw [← Lib.toList_data]; exact (beq_iff_eq.1 h).symm
    rw [e]
    simp [Lib.indexByte]
  · go_ret
    exact ⟨rfl, rfl⟩
set_option maxHeartbeats 1000000 in
theorem index2_one (s : ByteArray) (c : UInt8) (w : World) :
    Calls Try.prog 55 #[.string s, .string ⟨#[c]⟩] w fun e w' => e = .returned (.int .i64 (Lib.indexByte s.data.toList c)) ∧ w' = w := by
  go_enter Try.func55, Try.ntmps55
  go_wp2_with (go_at_call 73; refine (index_one _ _ _).mono ?_; rintro e w' ⟨rfl, rfl⟩)
  go_ret
  exact ⟨rfl, rfl⟩
theorem indexByte_mem (l : List UInt8) (c : UInt8) : (0 ≤ Lib.indexByte l c) ↔ c ∈ l := by
  induction l with
  | nil => simp [Lib.indexByte]
  | cons b r ih =>
    have hg := Lib.indexByte_ge r c
    unfold Lib.indexByte
    by_cases hb : b = c
    · subst hb; simp
    · have hb2 : ¬ c = b := Ne.symm hb
      by_cases h1 : Lib.indexByte r c = -1
      · have : c ∉ r := by rw [← ih]; omega
        simp [hb, h1, hb2, this]
      · have : c ∈ r := by rw [← ih]; omega
        simp [hb, h1, this]; omega
set_option maxHeartbeats 1000000 in
theorem contains_one (s : ByteArray) (c : UInt8) (w : World) :
    Calls Try.prog 43 #[.string s, .string ⟨#[c]⟩] w fun e w' => e = .returned (.bool (decide (c ∈ s.data.toList))) ∧ w' = w := by
  go_enter Try.func43, Try.ntmps43
  go_wp2_with (go_at_call 55; refine (index2_one _ _ _).mono ?_; rintro e w' ⟨rfl, rfl⟩)
  go_ret
  refine ⟨?_, rfl⟩
  have := indexByte_mem s.data.toList c
  simp only [this]
  rfl
set_option maxHeartbeats 1000000 in
theorem dots_l (l : List UInt8) (w : World) : Calls Try.prog 42 #[Sl' l] w fun e w' => e = .returned (.bool (dots l)) ∧ w' = w := by
  go_enter Try.func42, Try.ntmps42
  go_wp2
  all_goals (go_ret; refine ⟨?_, rfl⟩; simp_all [dots])
set_option maxHeartbeats 1000000 in
theorem right_l (l : List UInt8) (w : World) : Calls Try.prog 25 #[Sl' l] w fun e w' => e = .returned (.bool (right (bs l))) ∧ w' = w := by
  by_cases hd : dots l = true
  · have hr : right (bs l) = false := by simp [right, hd]
    rw [hr]
    go_enter Try.func25, Try.ntmps25
    go_wp2_with (first | (go_at_call 43; refine (contains_one _ _ _).mono ?_; rintro e w' ⟨rfl, rfl⟩) | (go_at_call 42; refine (dots_l _ _).mono ?_; rintro e w' ⟨rfl, rfl⟩; rw [hd]))
    all_goals (go_ret; exact ⟨rfl, rfl⟩)
  · replace hd : dots l = false := by simpa using hd
    by_cases h0 : l = []
    · have hr : right (bs l) = false := by simp [right, h0]
      rw [hr]; subst h0
      go_enter Try.func25, Try.ntmps25
      go_wp2_with fail
      go_ret; exact ⟨rfl, rfl⟩
    · have h1 : l.isEmpty = false := by simpa using h0
      by_cases h2 : 255 < l.length
      · have hr : right (bs l) = false := by simp [right, h2]
        have h3 : (255 : Int) < (l.length : Int) := by omega
        rw [hr]
        go_enter Try.func25, Try.ntmps25
        go_wp2_with fail
        all_goals (go_ret; refine ⟨?_, rfl⟩; first | rfl | simp_all)
      · have hr : right (bs l) = (!decide ((47 : UInt8) ∈ l) && !decide ((0 : UInt8) ∈ l)) := by simp [right, h2, hd, h1]
        have h3 : ¬ (255 : Int) < (l.length : Int) := by omega
        rw [hr]
        clear hr
        go_enter Try.func25, Try.ntmps25
        go_wp2_with (first | (go_at_call 43; refine (contains_one _ _ _).mono ?_; rintro e w' ⟨rfl, rfl⟩) | (go_at_call 42; refine (dots_l _ _).mono ?_; rintro e w' ⟨rfl, rfl⟩; rw [hd]))
        all_goals (go_ret; refine ⟨?_, rfl⟩; first | rfl | simp_all)
theorem right_any (s : ByteArray) (w : World) : Calls Try.prog 25 #[.string s] w fun e w' => e = .returned (.bool (right s)) ∧ w' = w := right_l s.data.toList w
set_option maxHeartbeats 1000000 in
theorem clone_any (s : ByteArray) (w : World) (hs : s.size ≤ 281474976710656) :
    Calls Try.prog 36 #[.string s] w fun e w' => e = .returned (.string s) ∧ Below w.heap.size w w' := by
  go_enter Try.func36, Try.ntmps36
  go_wp2_with (go_at_call 50; refine (Try.stringslite_Clone _ _ hs).mono ?_; rintro e w' ⟨rfl, hB⟩)
  go_ret
  exact ⟨rfl, hB⟩
set_option maxRecDepth 100000 in
set_option maxHeartbeats 1000000 in
theorem compare_any (a b : ByteArray) (w : World) : Calls Try.prog 74 #[.string a, .string b] w fun e w' => e = .returned (.int .i64 (cmpS a b)) ∧ w' = w := by
  go_enter Try.func74, Try.ntmps74
  go_wp2_with fail
  rw [run_callFunc_extern Try.func86 (by kernel_rfl) (by kernel_rfl) (by kernel_rfl) (e := Extern.BytealgCompare.compare) (by kernel_rfl), Lib.run_compareString]
  simp only [Result.andThen]
  rw [Oper.upon_value]
  go_wp2_with fail
  go_ret
  exact ⟨rfl, rfl⟩
theorem compare2_any (a b : ByteArray) (w : World) : Calls Try.prog 58 #[.string a, .string b] w fun e w' => e = .returned (.int .i64 (cmpS a b)) ∧ w' = w := by
  go_enter Try.func58, Try.ntmps58
  go_wp2_with (go_at_call 74; refine (compare_any _ _ _).mono ?_; rintro e w' ⟨rfl, rfl⟩)
  go_ret
  exact ⟨rfl, rfl⟩
theorem place1_any (a : ByteArray) (n : Int) (s : ByteArray) (w : World) : Calls Try.prog 57 #[.agg #[.string a, .int .i64 n], .string s] w fun e w' => e = .returned (.int .i64 (cmpS a s)) ∧ w' = w.alloc (.cells #[.string a, .int .i64 n] 92) := by
  go_enter Try.func57, Try.ntmps57
  go_wp2_with (go_at_call 58; refine (compare2_any _ _ _).mono ?_; rintro e w' ⟨rfl, rfl⟩)
  go_ret
  exact ⟨rfl, rfl⟩
set_option maxHeartbeats 1000000 in
theorem fits_any (k : Int) (t : ByteArray) (w : World) : Calls Try.prog 26 #[.int .i64 k, .string t] w fun e w' => e = .returned (.bool (fitsB k t)) ∧ w' = w := by
  have ht : t.toList.isEmpty = decide (t = ⟨#[]⟩) := by
    rw [Lib.toList_data]
    by_cases h : t = ⟨#[]⟩
    · subst h; rfl
    · have : ¬ t.data = #[] := fun e => h (bytes_ext (by rw [e]))
      simp [h, this]
  unfold fitsB
  by_cases h1 : k = 1
  · subst h1
    go_enter Try.func26, Try.ntmps26
    go_wp2_with fail
    all_goals (go_ret; refine ⟨?_, rfl⟩; simp_all)
  · by_cases h2 : k = 2
    · subst h2
      go_enter Try.func26, Try.ntmps26
      go_wp2_with fail
      all_goals (go_ret; refine ⟨?_, rfl⟩; simp_all)
    · by_cases h3 : k = 3
      · subst h3
        go_enter Try.func26, Try.ntmps26
        go_wp2_with fail
        all_goals (go_ret; refine ⟨?_, rfl⟩; simp_all)
      · go_enter Try.func26, Try.ntmps26
        go_wp2_with fail
        all_goals (go_ret; refine ⟨?_, rfl⟩; simp_all)
end Go.Proofs.Ytlngeaacjbdmhaa
