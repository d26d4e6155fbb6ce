/-
  The contracts of the small functions: Index, Contains and Cut at one byte, Clone, Dots.
-/
import Derived.Test.YtlngeaacjbdmhaaGreatQp19
import Derived.Test.YtlngeaacjbdmhaaGreatQp03
import Derived.Deep.Draws
import Derived.Lib.Bytealg
import Derived.Lib.Strings
import Derived.Laws.Strings3
namespace Go.Proofs.YtlngeaacjbdmhaaGreat.Nm
open Go.RowKit
attribute [local go_sem ↓] Go.wp_at_zero Go.wp_at_succ
set_option maxRecDepth 100000 in
set_option maxHeartbeats 2000000 in
theorem index_one (s : ByteArray) (c : UInt8) (w : World) :
    Calls Tryz.prog 299 #[.string s, .string ⟨#[c]⟩] w fun e w' => e = .returned (.int .i64 (Lib.indexByte s.data.toList c)) ∧ w' = w := by
  go_enter Tryz.func299, Tryz.ntmps299
  go_wp2_with (go_at_call 316; refine (Tryz.stringslite_IndexByte _ _ _).mono ?_; rintro e w' ⟨rfl, rfl⟩)
  · have h : ([c] == s.toList) = true := by assumption
    go_ret
    refine ⟨?_, rfl⟩
    have e : s.data.toList = [c] := by rw [← Lib.toList_data]; exact (beq_iff_eq.1 h).symm
    rw [e]
    simp [Lib.indexByte]
  · go_ret
    exact ⟨rfl, rfl⟩
set_option maxHeartbeats 1000000 in
theorem index2_one (s : ByteArray) (c : UInt8) (w : World) :
    Calls Tryz.prog 277 #[.string s, .string ⟨#[c]⟩] w fun e w' => e = .returned (.int .i64 (Lib.indexByte s.data.toList c)) ∧ w' = w := by
  go_enter Tryz.func277, Tryz.ntmps277
  go_wp2_with (go_at_call 299; refine (index_one _ _ _).mono ?_; rintro e w' ⟨rfl, rfl⟩)
  go_ret
  exact ⟨rfl, rfl⟩
theorem indexByte_mem (l : List UInt8) (c : UInt8) : (0 ≤ Lib.indexByte l c) ↔ c ∈ l := by
  induction l with
  | nil => simp [Lib.indexByte]
  | cons b r ih =>
    have hg := Lib.indexByte_ge r c
    unfold Lib.indexByte
    by_cases hb : b = c
    · subst hb; simp
    · have hb2 : ¬ c = b := Ne.symm hb
      by_cases h1 : Lib.indexByte r c = -1
      · have : c ∉ r := by rw [← ih]; omega
        simp [hb, h1, hb2, this]
      · have : c ∈ r := by rw [← ih]; omega
        simp [hb, h1, this]; omega
set_option maxHeartbeats 1000000 in
theorem contains_one (s : ByteArray) (c : UInt8) (w : World) :
    Calls Tryz.prog 211 #[.string s, .string ⟨#[c]⟩] w fun e w' => e = .returned (.bool (decide (c ∈ s.data.toList))) ∧ w' = w := by
  go_enter Tryz.func211, Tryz.ntmps211
  go_wp2_with (go_at_call 277; refine (index2_one _ _ _).mono ?_; rintro e w' ⟨rfl, rfl⟩)
  go_ret
  refine ⟨?_, rfl⟩
  have := indexByte_mem s.data.toList c
  simp only [this]
  rfl
theorem index_before (l : List UInt8) (h : (47 : UInt8) ∈ l) : Lib.indexByte l 47 = ((before l).length : Int) := by
  induction l with
  | nil => simp at h
  | cons b r ih =>
    unfold Lib.indexByte
    by_cases hb : b = 47
    · subst hb; simp [before]
    · have e1 : before (b :: r) = b :: before r := by simp [before, hb]
      have hr : (47 : UInt8) ∈ r := by
        rcases List.mem_cons.1 h with h | h
        · exact absurd h.symm hb
        · exact h
      rw [e1, ih hr]
      have : ¬ (((before r).length : Int) = -1) := by omega
      simp [hb, this]
theorem cut_take {l : List UInt8} (h : (47 : UInt8) ∈ l) : l.take (before l).length = before l ∧ l.drop ((before l).length + 1) = behind l ∧ (before l).length + 1 ≤ l.length := by
  rcases split_at l with ⟨h1, _, _⟩ | h1
  · exact absurd h h1
  · generalize before l = x at h1 ⊢
    generalize behind l = y at h1 ⊢
    subst h1
    simp
theorem extract_bs (l : List UInt8) (a b : Nat) : (bs l).extract a b = bs ((l.drop a).take (b - a)) := by
  apply ByteArray.ext
  simp [ByteArray.data_extract, List.extract_eq_drop_take']
set_option maxHeartbeats 1000000 in
theorem cut_no (l : List UInt8) (h : (47 : UInt8) ∉ l) (w : World) :
    Calls Tryz.prog 312 #[S l, .string ⟨#[47]⟩] w fun e w' => e = .returned (.tuple #[S l, S [], .bool false]) ∧ ∃ n, w' = w.drewN n := by
  have hg := Lib.indexByte_ge l 47
  have hm := indexByte_mem l 47
  have hix : Lib.indexByte l 47 = -1 := by
    have : ¬ 0 ≤ Lib.indexByte l 47 := by rw [hm]; exact h
    omega
  go_enter Tryz.func312, Tryz.ntmps312
  go_wp2_with (go_at_call 299; refine (index_one _ _ _).mono ?_; rintro e w' ⟨rfl, rfl⟩; rw [show Lib.indexByte (bs l).data.toList 47 = _ from hix])
  go_ret3
  exact ⟨rfl, 0, rfl⟩
set_option maxHeartbeats 1000000 in
theorem cut_yes (l : List UInt8) (h : (47 : UInt8) ∈ l) (w : World) (hl : l.length ≤ 9223372036854775807) :
    Calls Tryz.prog 312 #[S l, .string ⟨#[47]⟩] w fun e w' => e = .returned (.tuple #[S (before l), S (behind l), .bool true]) ∧ ∃ n, w' = w.drewN n := by
  have hix := index_before l h
  obtain ⟨t1, t2, t3⟩ := cut_take h
  have hsz : (bs l).size = l.length := by simp [ByteArray.size]
  generalize hi : (before l).length = i at *
  have c1 : (0 : Int) ≤ (i : Int) := by omega
  have c2 : (i : Int) ≤ ((bs l).size : Int) := by omega
  have c3 : (0 : Int) ≤ (i : Int) + 1 := by omega
  have c4 : ((i : Int) + 1) ≤ ((bs l).size : Int) := by omega
  have X1 := hide ((extract_bs l 0 i).trans (by rw [List.drop_zero, Nat.sub_zero, t1]))
  have X2 := hide ((extract_bs l (i + 1) l.length).trans (by rw [t2, List.take_of_length_le]; rw [← t2, List.length_drop]; exact Nat.le_refl _))
  clear t1 t2 hi
  go_enter Tryz.func312, Tryz.ntmps312
  go_wp2_with (go_at_call 299; refine (index_one _ _ _).mono ?_; rintro e w' ⟨rfl, rfl⟩; rw [show Lib.indexByte (bs l).data.toList 47 = _ from hix])
  go_region
  go_wp2
  go_ret3
  refine ⟨?_, 1, rfl⟩
  rw [unhide X1, unhide X2]
  rfl
set_option maxHeartbeats 1000000 in
theorem cut_any (l : List UInt8) (w : World) (hl : l.length ≤ 9223372036854775807) :
    Calls Tryz.prog 290 #[S l, .string ⟨#[47]⟩] w fun e w' => (∃ f, e = .returned (.tuple #[S (before l), S (behind l), .bool f])) ∧ ∃ n, w' = w.drewN n := by
  have H : Calls Tryz.prog 312 #[S l, .string ⟨#[47]⟩] w fun e w' => ∃ f, e = .returned (.tuple #[S (before l), S (behind l), .bool f]) ∧ ∃ n, w' = w.drewN n := by
    by_cases h : (47 : UInt8) ∈ l
    · exact (cut_yes l h w hl).mono fun _ _ ⟨h1, h2⟩ => ⟨_, h1, h2⟩
    · rcases split_at l with ⟨_, h2, h3⟩ | h2
      · rw [h2, h3]
        exact (cut_no l h w).mono fun _ _ ⟨h1, h2⟩ => ⟨_, h1, h2⟩
      · exact absurd (by rw [h2]; simp) h
  have H := hide H
  go_enter Tryz.func290, Tryz.ntmps290
  go_wp2_with (go_at_call 312; refine (unhide H).mono ?_; rintro e w' ⟨f, rfl, n, rfl⟩)
  go_ret3
  exact ⟨⟨f, rfl⟩, n, rfl⟩
set_option maxHeartbeats 1000000 in
theorem clone_any (s : ByteArray) (w : World) (hs : s.size ≤ 281474976710656) :
    Calls Tryz.prog 119 #[.string s] w fun e w' => e = .returned (.string s) ∧ Below w.heap.size w w' := by
  go_enter Tryz.func119, Tryz.ntmps119
  go_wp2_with (go_at_call 209; refine (Tryz.stringslite_Clone _ _ hs).mono ?_; rintro e w' ⟨rfl, hB⟩)
  go_ret
  exact ⟨rfl, hB⟩
def dots (l : List UInt8) : Bool := l == [46] || l == [46, 46]
set_option maxHeartbeats 1000000 in
theorem dots_any (l : List UInt8) (w : World) : Calls Tryz.prog 210 #[S l] w fun e w' => e = .returned (.bool (dots l)) ∧ w' = w := by
  go_enter Tryz.func210, Tryz.ntmps210
  go_wp2
  all_goals (go_ret; refine ⟨?_, rfl⟩; simp_all [dots])
def ref1 (l : List UInt8) : Int := if l = [] then 32 else if 4096 < l.length then 45 else if (0 : UInt8) ∈ l then 39 else 0
set_option maxHeartbeats 1000000 in
theorem refusal_any (l : List UInt8) (w : World) : Calls Tryz.prog 228 #[S l] w fun e w' => e = .returned (.int .i64 (ref1 l)) ∧ w' = w := by
  unfold ref1
  by_cases h1 : l = []
  · rw [if_pos h1]; subst h1
    go_enter Tryz.func228, Tryz.ntmps228
    go_wp2
    go_ret
    exact ⟨rfl, rfl⟩
  · rw [if_neg h1]
    have h0 : l.isEmpty = false := by simpa using h1
    by_cases h2 : 4096 < l.length
    · rw [if_pos h2]
      have h3 : (4096 : Int) < (l.length : Int) := by omega
      go_enter Tryz.func228, Tryz.ntmps228
      go_wp2
      all_goals (go_ret; refine ⟨?_, rfl⟩; first | rfl | simp_all)
    · rw [if_neg h2]
      have h3 : ¬ (4096 : Int) < (l.length : Int) := by omega
      by_cases h4 : (0 : UInt8) ∈ l
      · rw [if_pos h4]
        have h5 : decide ((0 : UInt8) ∈ (bs l).data.toList) = true := by simpa using h4
        go_enter Tryz.func228, Tryz.ntmps228
        go_wp2_with (go_at_call 211; refine (contains_one _ _ _).mono ?_; rintro e w' ⟨rfl, rfl⟩)
        all_goals (go_ret; refine ⟨?_, rfl⟩; first | rfl | simp_all)
      · rw [if_neg h4]
        have h5 : decide ((0 : UInt8) ∈ (bs l).data.toList) = false := by simpa using h4
        go_enter Tryz.func228, Tryz.ntmps228
        go_wp2_with (go_at_call 211; refine (contains_one _ _ _).mono ?_; rintro e w' ⟨rfl, rfl⟩)
        all_goals (go_ret; refine ⟨?_, rfl⟩; first | rfl | simp_all)
def right (l : List UInt8) : Bool := !(l.isEmpty || decide (255 < l.length) || dots l) && (!decide ((47 : UInt8) ∈ l) && !decide ((0 : UInt8) ∈ l))
set_option maxHeartbeats 1000000 in
theorem right_any (l : List UInt8) (w : World) : Calls Tryz.prog 121 #[S l] w fun e w' => e = .returned (.bool (right l)) ∧ w' = w := by
  by_cases hd : dots l = true
  · have hr : right l = false := by simp [right, hd]
    rw [hr]
    go_enter Tryz.func121, Tryz.ntmps121
    go_wp2_with (first | (go_at_call 211; refine (contains_one _ _ _).mono ?_; rintro e w' ⟨rfl, rfl⟩) | (go_at_call 210; refine (dots_any _ _).mono ?_; rintro e w' ⟨rfl, rfl⟩; rw [hd]))
    all_goals (go_ret; exact ⟨rfl, rfl⟩)
  · replace hd : dots l = false := by simpa using hd
    by_cases h0 : l = []
    · have hr : right l = false := by simp [right, h0]
      rw [hr]; subst h0
      go_enter Tryz.func121, Tryz.ntmps121
      go_wp2_with fail
      go_ret; exact ⟨rfl, rfl⟩
    · have h1 : l.isEmpty = false := by simpa using h0
      by_cases h2 : 255 < l.length
      · have hr : right l = false := by simp [right, h2]
        have h3 : (255 : Int) < (l.length : Int) := by omega
        rw [hr]
        go_enter Tryz.func121, Tryz.ntmps121
        go_wp2_with fail
        all_goals (go_ret; refine ⟨?_, rfl⟩; first | rfl | simp_all)
      · have hr : right l = (!decide ((47 : UInt8) ∈ l) && !decide ((0 : UInt8) ∈ l)) := by simp [right, h2, hd, h1]
        have h3 : ¬ (255 : Int) < (l.length : Int) := by omega
        rw [hr]
        clear hr
        go_enter Tryz.func121, Tryz.ntmps121
        go_wp2_with (first | (go_at_call 211; refine (contains_one _ _ _).mono ?_; rintro e w' ⟨rfl, rfl⟩) | (go_at_call 210; refine (dots_any _ _).mono ?_; rintro e w' ⟨rfl, rfl⟩; rw [hd]))
        all_goals (go_ret; refine ⟨?_, rfl⟩; first | rfl | simp_all)
end Go.Proofs.YtlngeaacjbdmhaaGreat.Nm

namespace Go.Proofs.YtlngeaacjbdmhaaGreat.Nm
open Go.RowKit Go.Shelf
attribute [local go_sem] Oper.semAt_some
def strLen : Value → Nat
  | .string s => s.size
  | _ => 0
theorem strLen_S (l : List UInt8) : strLen (S l) = l.length := by simp [strLen, ByteArray.size]
set_option maxRecDepth 100000 in
set_option maxHeartbeats 1000000 in
theorem iter_go (y x : Nat) (l0 : List UInt8) (W : World) (J : List UInt8 → World → Prop) (E : World → Prop) (hl0 : l0.length ≤ 9223372036854775807) (hJ0 : J l0 W) (hx : W.cell? ⟨x, 0, none⟩ = some (S l0))
    (hD : ∀ r W' n, J r W' → J r (W'.drewN n)) (hS : ∀ r W', J r W' → before r = [] → J (behind r) W')
    (hY : ∀ r W', J r W' → r.length ≤ l0.length → before r ≠ [] → YieldAt Fence.wide (3 - 1) Tryz.prog y #[S (before r)] W' fun e W2 => (e = .returned (.bool true) ∧ J (behind r) W2) ∨ (e = .returned (.bool false) ∧ E W2)) :
    CallsIn Fence.wide 3 Tryz.prog 289 #[.func (.yield y) #[] #[], .pointer (some ⟨x, 0, none⟩)] W fun e W' => e = .returned (.tuple #[]) ∧ (J [] W' ∨ E W') := by
  have hro : Fence.wide.round = none := rfl
  have HY := hide hY
  have HD := hide hD
  have HS := hide hS
  clear hY hD hS
  refine callsIn_of_wp Tryz.func289 rfl trivial ?_ hro
  simp only [Tryz.ntmps289, List.size_toArray, List.length_cons, List.length_nil, Nat.reduceAdd, Nat.reduceSub, Array.replicate_succ, Array.replicate_zero, List.push_toArray, List.append_toArray, List.nil_append, List.cons_append]
  gi_wp2_with fail
  clear hx
  gi_loopw [3] (fun i wr => ∃ r : List UInt8, r.length ≤ l0.length ∧ i = S r ∧ J r wr) (fun i _ => strLen i)
  case atStart => exact ⟨l0, Nat.le_refl _, rfl, hJ0⟩
  case round =>
    obtain ⟨r, hr, rfl, hJ⟩ := hrel
    by_cases h0 : r = []
    · subst h0
      gi_wp2_with fail
      go_end0
      exact ⟨rfl, .inl hJ⟩
    · have h1 : r.isEmpty = false := by simpa using h0
      have hlt := hide (behind_lt h0)
      by_cases hb : before r = []
      · have HJ := hide (unhide HS r wr hJ hb)
        clear hJ
        gi_wp2_with fail
        refine ⟨trivial, (callsIn_wide.2 (cut_any r _ (by omega))).mono ?_⟩
        rintro e w' ⟨⟨f, rfl⟩, n, rfl⟩
        rw [hb]
        gi_wp2_with fail
        rename_i K2 hK2 x2 h2 w2 q2
        refine ⟨(fun _ _ => trivial), hK2 _ _ ?_⟩
        clear q2 x2 h2 w2
        gi_wp2_with fail
        go_roundw
        case rel => exact ⟨behind r, Nat.le_trans (behind_le r) hr, rfl, unhide HD _ _ _ (unhide HJ)⟩
        case measure => have := unhide hlt; simp [strLen_S]; omega
      · have hbe : (before r).isEmpty = false := by simpa using hb
        have hY := hide fun n => unhide HY r (wr.drewN n) (unhide HD _ _ _ hJ) hr hb
        clear hJ
        gi_wp2_with fail
        refine ⟨trivial, (callsIn_wide.2 (cut_any r _ (by omega))).mono ?_⟩
        rintro e w' ⟨⟨f, rfl⟩, n, rfl⟩
        obtain ⟨fn, tmps, assign, body, hyy, hR⟩ := unhide hY n
        gi_wp2_with fail
        refine hR.mono ?_
        rintro e W2 (⟨rfl, hJ2⟩ | ⟨rfl, hE⟩)
        · gi_wp2_with fail
          go_roundw
          case rel => exact ⟨behind r, Nat.le_trans (behind_le r) hr, rfl, hJ2⟩
          case measure => have := unhide hlt; simp [strLen_S]; omega
        · gi_wp2_with fail
          refine bodyPost_ret (results_none rfl _ _ _) rfl ?_
          exact ⟨rfl, .inr hE⟩
end Go.Proofs.YtlngeaacjbdmhaaGreat.Nm

namespace Go.Proofs.YtlngeaacjbdmhaaGreat.Nm
open Go.RowKit Go.Shelf
attribute [local go_sem] Oper.semAt_some
set_option maxHeartbeats 1000000 in
theorem parts_any (l : List UInt8) (w : World) : Calls Tryz.prog 231 #[S l] w fun e w' => e = .returned (.func (.func 289) #[] #[.pointer (some ⟨w.heap.size, 0, none⟩)]) ∧ w' = w.alloc (.cells #[S l] 9) := by
  have hmf : ∀ (fn : Go.Fn) (first cap : Array Value) (w : World), (Instr.makeFunc fn first cap).run Tryz.prog w = .ok (.func fn first cap) w := fun _ _ _ _ => rfl
  go_enter Tryz.func231, Tryz.ntmps231
  go_wp2
  go_ret
  exact ⟨rfl, rfl⟩
theorem ref_err {l : List UInt8} (h : ref1 l ≠ 0) : err l = ref1 l := by
  unfold err; unfold ref1 at h ⊢
  split
  · rfl
  · split
    · rfl
    · split
      · rfl
      · simp_all
theorem ref_ok {l : List UInt8} (h : ref1 l = 0) : l ≠ [] ∧ l.length ≤ 4096 ∧ (0 : UInt8) ∉ l := by
  unfold ref1 at h
  split at h
  · omega
  · split at h
    · omega
    · split at h
      · omega
      · exact ⟨‹_›, by omega, ‹_›⟩
set_option maxRecDepth 100000 in
set_option maxHeartbeats 1000000 in
theorem read_no (l : List UInt8) (w : World) (h : ref1 l ≠ 0) :
    CallsIn Fence.wide 4 Tryz.prog 157 #[S l] w fun e w' => e = .returned (.tuple #[.agg #[.bool false, .bool false, .slice none 0 0], .int .i64 (ref1 l)]) ∧ Below w.heap.size w w' := by
  have hro : Fence.wide.round = none := rfl
  have H := hide (refusal_any l)
  have hne : ¬ ref1 l = 0 := h
  generalize ref1 l = x at *
  refine callsIn_of_wp_marks Tryz.func157 rfl trivial ?_ hro
  simp only [Tryz.ntmps157, List.size_toArray, List.length_cons, List.length_nil, Nat.reduceAdd, Nat.reduceSub, Array.replicate_succ, Array.replicate_zero, List.push_toArray, List.append_toArray, List.nil_append, List.cons_append]
  gi_wp2_with fail
  refine ⟨trivial, (callsIn_wide.2 (unhide H _)).mono ?_⟩
  rintro e w' ⟨rfl, rfl⟩
  gi_wp2_with fail
  obtain ⟨V, hV, hsz, g0, g1, hB⟩ := two0 w (.cells #[.bool false, .bool false, .slice none 0 0] 234) (.cells #[.int .i64 x] 24)
  rw [hV]
  have z0 : V.cell? ⟨w.heap.size, 0, none⟩ = some (.bool false) := by rw [cell_of g0]; rfl
  have z1 : V.cell? ⟨w.heap.size, 1, none⟩ = some (.bool false) := by rw [cell_of g0]; rfl
  have z2 : V.cell? ⟨w.heap.size, 2, none⟩ = some (.slice none 0 0) := by rw [cell_of g0]; rfl
  have z3 : V.cell? ⟨w.heap.size + 1, 0, none⟩ = some (.int .i64 x) := by rw [cell_of g1]; rfl
  exact ⟨.tuple #[.agg #[.bool false, .bool false, .slice none 0 0], .int .i64 x], by simp [results, Tryz.results157, go_sem, z0, z1, z2, z3], rfl, hB⟩
structure RJ (w W : World) (r : Loop) (h : Nat) (l : List UInt8) (p s : Bool) (rest : List UInt8) : Prop where
  lp : W.heap[h + 5]? = some (.loop r)
  dd : W.heap[h + 4]? = some (.deferred (some []))
  be : Below h w W
  k0 : W.heap[h]? = some (.cells #[.bool false, .bool false, .slice none 0 0] 234)
  k1 : W.heap[h + 1]? = some (.cells #[.int .i64 0] 24)
  ow : ∃ v dn, W.heap[h + 2]? = some (.cells #[.bool p, .bool s, v] 234) ∧ parts l = dn ++ parts rest ∧ (∀ q ∈ dn, q.length ≤ 255) ∧ W.ownsRow h 9 1 v dn.length (strs dn)
structure RE (w W : World) (h : Nat) (l : List UInt8) : Prop where
  lp : ∃ rd : Loop, rd.state = .done ∧ rd.pending = some .ret ∧ W.heap[h + 5]? = some (.loop rd)
  dd : W.heap[h + 4]? = some (.deferred (some []))
  be : Below h w W
  k0 : W.heap[h]? = some (.cells #[.bool false, .bool false, .slice none 0 0] 234)
  k1 : W.heap[h + 1]? = some (.cells #[.int .i64 45] 24)
  er : ∃ q ∈ parts l, 255 < q.length
theorem below_put {w W : World} {h k : Nat} {o : Obj} (hb : Below h w W) (hk : h ≤ k) : Below h w (W.putObj k o) :=
  ⟨hb.os, hb.tape, hb.output, by rw [World.putObj_size]; exact hb.size, fun j hj => (World.putObj_heap_other (by omega)).trans (hb.block j hj)⟩
theorem RJ.put {w W : World} {r : Loop} {h : Nat} {l : List UInt8} {p s : Bool} {rest : List UInt8} (J : RJ w W r h l p s rest) (r' : Loop) : RJ w (W.putObj (h + 5) (.loop r')) r' h l p s rest := by
  obtain ⟨v, dn, o1, o2, o3, o4⟩ := J.ow
  exact ⟨World.putObj_heap_same (lt_of_heap J.lp), put_other J.lp J.dd (by simp), below_put J.be (by omega), put_other J.lp J.k0 (by simp), put_other J.lp J.k1 (by simp), v, dn, put_other J.lp o1 (by simp), o2, o3, own_put o4 J.lp⟩
theorem RJ.drewN {w W : World} {r : Loop} {h : Nat} {l : List UInt8} {p s : Bool} {rest : List UInt8} (J : RJ w W r h l p s rest) (n : Nat) : RJ w (W.drewN n) r h l p s rest := by
  obtain ⟨v, dn, o1, o2, o3, o4⟩ := J.ow
  exact ⟨J.lp, J.dd, below_dn J.be n, J.k0, J.k1, v, dn, o1, o2, o3, own_keep o4 fun _ _ _ => rfl⟩
theorem RJ.skip {w W : World} {r : Loop} {h : Nat} {l : List UInt8} {p s : Bool} {rest : List UInt8} (J : RJ w W r h l p s rest) (hb : before rest = []) : RJ w W r h l p s (behind rest) := by
  obtain ⟨v, dn, o1, o2, o3, o4⟩ := J.ow
  exact ⟨J.lp, J.dd, J.be, J.k0, J.k1, v, dn, o1, by rw [o2, parts_cut rest, hb]; simp [piece], o3, o4⟩
theorem parts_le (l : List UInt8) : (parts l).length ≤ l.length + 1 := by
  have h := wt_parts _ l (Nat.le_refl _)
  have h2 : ∀ q : List (List UInt8), q.length ≤ wt q := by
    intro q
    induction q with
    | nil => simp
    | cons p r ih => simp [wt]; omega
  have h3 : ende l ≤ 1 := by unfold ende; split <;> omega
  have := h2 (parts l)
  omega
theorem cell_one_new (W : World) (v : Value) (t : TypeId) (j : Nat) (u : Value) (h : [v][j]? = some u) : (W.alloc (.cells #[v] t)).cell? ((⟨W.heap.size, 0, none⟩ : Addr).add j) = some u := by
  match j, h with
  | 0, h => simp at h; subst h; rw [show (⟨W.heap.size, 0, none⟩ : Addr).add 0 = ⟨W.heap.size, 0, none⟩ from rfl, cell_of (putAll _ _ rfl)]; rfl
theorem RJ.more {w W : World} {r : Loop} {h : Nat} {l : List UInt8} {p s : Bool} {rest q : List UInt8} (J : RJ w W r h l p s rest) (hq : parts rest = q :: parts (behind rest)) (hql : q.length ≤ 255) (hl : l.length ≤ 4096) :
    ∃ v, W.cell? ⟨h + 2, 2, none⟩ = some v ∧ ∀ X : World, Below W.heap.size W X → X.cell? ⟨h + 2, 2, none⟩ = some v ∧ (X.alloc (.cells #[S q] 9)).cell? ⟨h + 2, 2, none⟩ = some v ∧
      ∃ a m c W6, (Builtin.append_ #[55, 55] 55 #[v, .slice (some ⟨X.heap.size, 0, none⟩) 1 1]).run Tryz.prog (X.alloc (.cells #[S q] 9)) = .ok (.slice a m c) W6 ∧ W6.cell? ⟨h + 2, 2, none⟩ = some v ∧ W6.frozen? ⟨h + 2, 2, none⟩ = false ∧
        (W6.setCell ⟨h + 2, 2, none⟩ (.slice a m c)).heap[h + 5]? = some (.loop r) ∧ RJ w (W6.setCell ⟨h + 2, 2, none⟩ (.slice a m c)) r h l p s (behind rest) := by
  obtain ⟨v, dn, o1, o2, o3, o4⟩ := J.ow
  obtain ⟨i0, hi, hz0, hz1, hz2⟩ := info_parts info9
  have hdn : dn.length ≤ 4097 := by
    have h1 := congrArg List.length o2
    have h2 := parts_le l
    simp at h1; omega
  have hlw := lt_of_heap J.lp
  refine ⟨v, by rw [cell_of o1]; rfl, fun X hB => ?_⟩
  have kx : ∀ {k : Nat} {o : Obj}, W.heap[k]? = some o → X.heap[k]? = some o := fun h1 => (hB.block _ (lt_of_heap h1)).trans h1
  have hxs := hB.size
  have ownX : X.ownsRow h 9 1 v dn.length (strs dn) := own_keep o4 fun k cur hc => hB.block _ (lt_of_heap hc)
  have own5 := own_keep (W' := X.alloc (.cells #[S q] 9)) ownX (fun k cur hc => Below.heap_alloc X _ _ (lt_of_heap hc))
  obtain ⟨v', W6, hrun, own6, hgr, -, -⟩ := run_append_own_at (P := Tryz.prog) (X.alloc (.cells #[S q] 9)) h 55 55 9 i0 (.string ByteArray.empty) 1 16 Tryz.underlying55 hi hz0 hz1 hz2 rfl (by decide) v _ _ own5 ⟨X.heap.size, 0, none⟩ 1 1 [S q] rfl (cell_one_new X _ _) (by intro u hu; simp at hu; subst hu; rfl) (by unfold maxLen; omega) (by omega) (by simp; omega)
  obtain ⟨a, c, rfl⟩ := own_form own6
  have k6 : ∀ {k : Nat} {o : Obj}, W.heap[k]? = some o → (∀ cur, o ≠ .cells cur 9 (0, 0)) → W6.heap[k]? = some o := fun h1 h2 => grown_keep ownX hgr (kx h1) h2
  have b6 := k6 o1 (by simp)
  have k7 : ∀ {k : Nat} {o : Obj}, W.heap[k]? = some o → (∀ cur, o ≠ .cells cur 9 (0, 0)) → k ≠ h + 2 → (W6.setCell ⟨h + 2, 2, none⟩ (.slice a (dn.length + 1) c)).heap[k]? = some o := fun h1 h2 h3 => (Below.heap_setCell _ _ _ _ h3).trans (k6 h1 h2)
  have be6 : Below h w W6 := below_grown ((J.be.trans (hB.mono (by omega))).alloc (by omega) _) own5 hgr (by simp; omega)
  refine ⟨by rw [cell_of (kx o1)]; rfl, by rw [cell_of ((Below.heap_alloc X _ _ (lt_of_heap (kx o1))).trans (kx o1))]; rfl, a, _, c, W6, hrun, by rw [cell_of b6]; rfl, frozen_of b6 2, k7 J.lp (by simp) (by omega), ?_⟩
  refine ⟨k7 J.lp (by simp) (by omega), k7 J.dd (by simp) (by omega), be6.setCell (p := ⟨h + 2, 2, none⟩) (by simp) _, k7 J.k0 (by simp) (by omega), k7 J.k1 (by simp) (by omega), .slice a (dn.length + 1) c, dn ++ [q], ?_, by rw [o2, hq]; simp, ?_, ?_⟩
  · rw [heap_set b6]; simp
  · intro x hx
    rcases List.mem_append.1 hx with hx | hx
    · exact o3 x hx
    · simp at hx; subst hx; exact hql
  · have e1 : (dn ++ [q]).length = dn.length + 1 := by simp
    have e2 : strs (dn ++ [q]) = strs dn ++ [S q] := by simp [strs]
    rw [e1, e2]
    refine own_keep own6 fun k cur hc => Below.heap_setCell _ _ _ _ ?_
    rintro rfl
    rw [b6] at hc
    simp at hc
theorem RJ.drew {w W : World} {r : Loop} {h : Nat} {l : List UInt8} {p s : Bool} {rest : List UInt8} (J : RJ w W r h l p s rest) : RJ w W.drew r h l p s rest := by
  obtain ⟨v, dn, o1, o2, o3, o4⟩ := J.ow
  exact ⟨J.lp, J.dd, below_drew J.be, J.k0, J.k1, v, dn, o1, o2, o3, own_keep o4 fun _ _ _ => rfl⟩
end Go.Proofs.YtlngeaacjbdmhaaGreat.Nm
