/-
  The contracts of the small functions: Index, Contains and Cut at one byte, Clone, Dots.
-/
import Derived.Test.YtnhddendkolfeaaBase
import Derived.Test.YtnhddendkolfeaaShelf
import Derived.Deep.Draws
import Derived.Lib.Bytealg
import Derived.Lib.Strings
import Derived.Laws.Strings3
namespace Go.Proofs.Ytnhddendkolfeaa
open Go.RowKit
attribute [local go_sem ↓] Go.wp_at_zero Go.wp_at_succ

set_option maxRecDepth 100000 in
set_option maxHeartbeats 2000000 in
theorem index_one (s : ByteArray) (c : UInt8) (w : World) :
    Calls Try.prog 42 #[.string s, .string ⟨#[c]⟩] w fun e w' => e = .returned (.int .i64 (Lib.indexByte s.data.toList c)) ∧ w' = w := by
  go_enter Try.func42, Try.ntmps42
  go_wp2_with (go_at_call 44; refine (Try.stringslite_IndexByte _ _ _).mono ?_; rintro e w' ⟨rfl, rfl⟩)
  · have h : ([c] == s.toList) = true := by assumption
    go_ret
    refine ⟨?_, rfl⟩
    have e : s.data.toList = [c] := by rw [← Lib.toList_data]; exact (beq_iff_eq.1 h).symm
    rw [e]
    simp [Lib.indexByte]
  · go_ret
    exact ⟨rfl, rfl⟩

set_option maxHeartbeats 1000000 in
theorem index2_one (s : ByteArray) (c : UInt8) (w : World) :
    Calls Try.prog 39 #[.string s, .string ⟨#[c]⟩] w fun e w' => e = .returned (.int .i64 (Lib.indexByte s.data.toList c)) ∧ w' = w := by
  go_enter Try.func39, Try.ntmps39
  go_wp2_with (go_at_call 42; refine (index_one _ _ _).mono ?_; rintro e w' ⟨rfl, rfl⟩)
  go_ret
  exact ⟨rfl, rfl⟩

theorem indexByte_mem (l : List UInt8) (c : UInt8) : (0 ≤ Lib.indexByte l c) ↔ c ∈ l := by
  induction l with
  | nil => simp [Lib.indexByte]
  | cons b r ih =>
    have hg := Lib.indexByte_ge r c
    unfold Lib.indexByte
    by_cases hb : b = c
    · subst hb; simp
    · have hb2 : ¬ c = b := Ne.symm hb
      by_cases h1 : Lib.indexByte r c = -1
      · have : c ∉ r := by rw [← ih]; omega
        simp [hb, h1, hb2, this]
      · have : c ∈ r := by rw [← ih]; omega
        simp [hb, h1, this]; omega
set_option maxHeartbeats 1000000 in
theorem contains_one (s : ByteArray) (c : UInt8) (w : World) :
    Calls Try.prog 30 #[.string s, .string ⟨#[c]⟩] w fun e w' => e = .returned (.bool (decide (c ∈ s.data.toList))) ∧ w' = w := by
  go_enter Try.func30, Try.ntmps30
  go_wp2_with (go_at_call 39; refine (index2_one _ _ _).mono ?_; rintro e w' ⟨rfl, rfl⟩)
  go_ret
  refine ⟨?_, rfl⟩
  have := indexByte_mem s.data.toList c
  simp only [this]
  rfl

/-- Where the first slash is. -/
theorem index_before (l : List UInt8) (h : (47 : UInt8) ∈ l) : Lib.indexByte l 47 = ((before l).length : Int) := by
  induction l with
  | nil => simp at h
  | cons b r ih =>
    unfold Lib.indexByte
    by_cases hb : b = 47
    · subst hb; simp [before]
    · have e1 : before (b :: r) = b :: before r := by simp [before, hb]
      have hr : (47 : UInt8) ∈ r := by
        rcases List.mem_cons.1 h with h | h
        · exact absurd h.symm hb
        · exact h
      rw [e1, ih hr]
      have : ¬ (((before r).length : Int) = -1) := by omega
      simp [hb, this]
theorem cut_take {l : List UInt8} (h : (47 : UInt8) ∈ l) : l.take (before l).length = before l ∧ l.drop ((before l).length + 1) = behind l ∧ (before l).length + 1 ≤ l.length := by
  rcases split_at l with ⟨h1, _, _⟩ | h1
  · exact absurd h h1
  · generalize before l = x at h1 ⊢
    generalize behind l = y at h1 ⊢
    subst h1
    simp
theorem extract_bs (l : List UInt8) (a b : Nat) : (bs l).extract a b = bs ((l.drop a).take (b - a)) := by
  apply ByteArray.ext
  simp [ByteArray.data_extract, List.extract_eq_drop_take']
set_option maxHeartbeats 1000000 in
theorem cut_no (l : List UInt8) (h : (47 : UInt8) ∉ l) (w : World) :
    Calls Try.prog 41 #[S l, .string ⟨#[47]⟩] w fun e w' => e = .returned (.tuple #[S l, S [], .bool false]) ∧ ∃ n, w' = w.drewN n := by
  have hg := Lib.indexByte_ge l 47
  have hm := indexByte_mem l 47
  have hix : Lib.indexByte l 47 = -1 := by
    have : ¬ 0 ≤ Lib.indexByte l 47 := by rw [hm]; exact h
    omega
  go_enter Try.func41, Try.ntmps41
  go_wp2_with (go_at_call 42; refine (index_one _ _ _).mono ?_; rintro e w' ⟨rfl, rfl⟩; rw [show Lib.indexByte (bs l).data.toList 47 = _ from hix])
  go_ret3
  exact ⟨rfl, 0, rfl⟩
set_option maxHeartbeats 1000000 in
theorem cut_yes (l : List UInt8) (h : (47 : UInt8) ∈ l) (w : World) (hl : l.length ≤ 9223372036854775807) :
    Calls Try.prog 41 #[S l, .string ⟨#[47]⟩] w fun e w' => e = .returned (.tuple #[S (before l), S (behind l), .bool true]) ∧ ∃ n, w' = w.drewN n := by
  have hix := index_before l h
  obtain ⟨t1, t2, t3⟩ := cut_take h
  have hsz : (bs l).size = l.length := by simp [ByteArray.size]
  generalize hi : (before l).length = i at *
  have c1 : (0 : Int) ≤ (i : Int) := by omega
  have c2 : (i : Int) ≤ ((bs l).size : Int) := by omega
  have c3 : (0 : Int) ≤ (i : Int) + 1 := by omega
  have c4 : ((i : Int) + 1) ≤ ((bs l).size : Int) := by omega
  have X1 := hide ((extract_bs l 0 i).trans (by rw [List.drop_zero, Nat.sub_zero, t1]))
  have X2 := hide ((extract_bs l (i + 1) l.length).trans (by rw [t2, List.take_of_length_le]; rw [← t2, List.length_drop]; exact Nat.le_refl _))
  clear t1 t2 hi
  go_enter Try.func41, Try.ntmps41
  go_wp2_with (go_at_call 42; refine (index_one _ _ _).mono ?_; rintro e w' ⟨rfl, rfl⟩; rw [show Lib.indexByte (bs l).data.toList 47 = _ from hix])
  go_region
  go_wp2
  go_ret3
  refine ⟨?_, 1, rfl⟩
  rw [unhide X1, unhide X2]
  rfl
set_option maxHeartbeats 1000000 in
theorem cut_any (l : List UInt8) (w : World) (hl : l.length ≤ 9223372036854775807) :
    Calls Try.prog 36 #[S l, .string ⟨#[47]⟩] w fun e w' => (∃ f, e = .returned (.tuple #[S (before l), S (behind l), .bool f])) ∧ ∃ n, w' = w.drewN n := by
  have H : Calls Try.prog 41 #[S l, .string ⟨#[47]⟩] w fun e w' => ∃ f, e = .returned (.tuple #[S (before l), S (behind l), .bool f]) ∧ ∃ n, w' = w.drewN n := by
    by_cases h : (47 : UInt8) ∈ l
    · exact (cut_yes l h w hl).mono fun _ _ ⟨h1, h2⟩ => ⟨_, h1, h2⟩
    · rcases split_at l with ⟨_, h2, h3⟩ | h2
      · rw [h2, h3]
        exact (cut_no l h w).mono fun _ _ ⟨h1, h2⟩ => ⟨_, h1, h2⟩
      · exact absurd (by rw [h2]; simp) h
  have H := hide H
  go_enter Try.func36, Try.ntmps36
  go_wp2_with (go_at_call 41; refine (unhide H).mono ?_; rintro e w' ⟨f, rfl, n, rfl⟩)
  go_ret3
  exact ⟨⟨f, rfl⟩, n, rfl⟩
set_option maxHeartbeats 1000000 in
theorem clone_any (s : ByteArray) (w : World) (hs : s.size ≤ 281474976710656) :
    Calls Try.prog 27 #[.string s] w fun e w' => e = .returned (.string s) ∧ Below w.heap.size w w' := by
  go_enter Try.func27, Try.ntmps27
  go_wp2_with (go_at_call 37; refine (Try.stringslite_Clone _ _ hs).mono ?_; rintro e w' ⟨rfl, hB⟩)
  go_ret
  exact ⟨rfl, hB⟩
theorem str_eq (a b : List UInt8) : ((bs a).toList == (bs b).toList) = decide (a = b) := by
  rw [Lib.toList_data, Lib.toList_data]
  by_cases h : a = b
  · subst h; simp
  · simp [h]
def dots (l : List UInt8) : Bool := l == [46] || l == [46, 46]
set_option maxHeartbeats 1000000 in
theorem dots_any (l : List UInt8) (w : World) : Calls Try.prog 13 #[S l] w fun e w' => e = .returned (.bool (dots l)) ∧ w' = w := by
  go_enter Try.func13, Try.ntmps13
  go_wp2
  all_goals (go_ret; refine ⟨?_, rfl⟩; simp_all [dots])
/-- What refusal answers: the text as a whole. -/
def ref1 (l : List UInt8) : Int := if l = [] then 32 else if 4096 < l.length then 45 else if (0 : UInt8) ∈ l then 39 else 0
set_option maxHeartbeats 1000000 in
theorem refusal_any (l : List UInt8) (w : World) : Calls Try.prog 23 #[S l] w fun e w' => e = .returned (.int .i64 (ref1 l)) ∧ w' = w := by
  unfold ref1
  by_cases h1 : l = []
  · rw [if_pos h1]; subst h1
    go_enter Try.func23, Try.ntmps23
    go_wp2
    go_ret
    exact ⟨rfl, rfl⟩
  · rw [if_neg h1]
    have h0 : l.isEmpty = false := by simpa using h1
    by_cases h2 : 4096 < l.length
    · rw [if_pos h2]
      have h3 : (4096 : Int) < (l.length : Int) := by omega
      go_enter Try.func23, Try.ntmps23
      go_wp2
      all_goals (go_ret; refine ⟨?_, rfl⟩; first | rfl | simp_all)
    · rw [if_neg h2]
      have h3 : ¬ (4096 : Int) < (l.length : Int) := by omega
      by_cases h4 : (0 : UInt8) ∈ l
      · rw [if_pos h4]
        have h5 : decide ((0 : UInt8) ∈ (bs l).data.toList) = true := by simpa using h4
        go_enter Try.func23, Try.ntmps23
        go_wp2_with (go_at_call 30; refine (contains_one _ _ _).mono ?_; rintro e w' ⟨rfl, rfl⟩)
        all_goals (go_ret; refine ⟨?_, rfl⟩; first | rfl | simp_all)
      · rw [if_neg h4]
        have h5 : decide ((0 : UInt8) ∈ (bs l).data.toList) = false := by simpa using h4
        go_enter Try.func23, Try.ntmps23
        go_wp2_with (go_at_call 30; refine (contains_one _ _ _).mono ?_; rintro e w' ⟨rfl, rfl⟩)
        all_goals (go_ret; refine ⟨?_, rfl⟩; first | rfl | simp_all)
/-- May a text be a name? -/
def right (l : List UInt8) : Bool := !(l.isEmpty || decide (255 < l.length) || dots l) && (!decide ((47 : UInt8) ∈ l) && !decide ((0 : UInt8) ∈ l))
set_option maxHeartbeats 1000000 in
theorem right_any (l : List UInt8) (w : World) : Calls Try.prog 12 #[S l] w fun e w' => e = .returned (.bool (right l)) ∧ w' = w := by
  by_cases hd : dots l = true
  · have hr : right l = false := by simp [right, hd]
    rw [hr]
    go_enter Try.func12, Try.ntmps12
    go_wp2_with (first | (go_at_call 30; refine (contains_one _ _ _).mono ?_; rintro e w' ⟨rfl, rfl⟩) | (go_at_call 13; refine (dots_any _ _).mono ?_; rintro e w' ⟨rfl, rfl⟩; rw [hd]))
    all_goals (go_ret; exact ⟨rfl, rfl⟩)
  · replace hd : dots l = false := by simpa using hd
    by_cases h0 : l = []
    · have hr : right l = false := by simp [right, h0]
      rw [hr]; subst h0
      go_enter Try.func12, Try.ntmps12
      go_wp2_with fail
      go_ret; exact ⟨rfl, rfl⟩
    · have h1 : l.isEmpty = false := by simpa using h0
      by_cases h2 : 255 < l.length
      · have hr : right l = false := by simp [right, h2]
        have h3 : (255 : Int) < (l.length : Int) := by omega
        rw [hr]
        go_enter Try.func12, Try.ntmps12
        go_wp2_with fail
        all_goals (go_ret; refine ⟨?_, rfl⟩; first | rfl | simp_all)
      · have hr : right l = (!decide ((47 : UInt8) ∈ l) && !decide ((0 : UInt8) ∈ l)) := by simp [right, h2, hd, h1]
        have h3 : ¬ (255 : Int) < (l.length : Int) := by omega
        rw [hr]
        clear hr
        go_enter Try.func12, Try.ntmps12
        go_wp2_with (first | (go_at_call 30; refine (contains_one _ _ _).mono ?_; rintro e w' ⟨rfl, rfl⟩) | (go_at_call 13; refine (dots_any _ _).mono ?_; rintro e w' ⟨rfl, rfl⟩; rw [hd]))
        all_goals (go_ret; refine ⟨?_, rfl⟩; first | rfl | simp_all)
end Go.Proofs.Ytnhddendkolfeaa
