/-
  The contracts of what asks a tree and turns nothing: dir, file, place, find, refuses, Find, Up, Text.
-/
import Derived.Test.YtlngeaacjbdmhaaGreatQp05
import Derived.RangeFuncNested
import Derived.RangeFuncBound
import Derived.RangeFuncCalls
import Derived.RangeFuncLeaves
import Derived.WalkKit
import Derived.Shelf.Abstract
import Derived.Shelf.RegionOpen
import Derived.OwnWalkIn
import Derived.TacticsInMore
import Derived.LoopNIn
import Derived.LoopIn
namespace Go.Proofs.YtlngeaacjbdmhaaGreat
open Go.RowKit Go.Maps
section
variable {lo N : Nat} {W W' : World} {t : Nat} {T : Tr} {q p : Nat} {nb : Int → Nat} {ev : Int → Value}
theorem dir_some (h : TrI lo N W t T q p nb ev) {n : Int} (hn : (kl n).wf = true) {x : Nd} (hx : T.nd n = some x) : Calls Tryz.prog 116 #[P0 t, I n] W fun e w' => e = .returned (.tuple #[P0 (nb n), .bool (decide (x.kind = 1))]) ∧ ∃ k, w' = W.drewN k := by
  obtain ⟨c0, c1, c2, c3, cf⟩ := h.cells
  have hl := h.look_ok hn
  rw [hx] at hl
  simp only [Option.isSome_some, if_true] at hl
  obtain ⟨d0, -, -, -, -, -, -, -, -, -, df⟩ := ndcells (h.hn n x hx).1
  clear h hx
  go_enter Tryz.func116, Tryz.ntmps116
  go_wp2_with fail
  go_region
  go_wp2_with fail
  go_ret2
  refine ⟨?_, 1, rfl⟩
  by_cases hk : x.kind = 1 <;> simp [hk]
theorem dir_none (h : TrI lo N W t T q p nb ev) {n : Int} (hn : (kl n).wf = true) (hx : T.nd n = none) : Calls Tryz.prog 116 #[P0 t, I n] W fun e w' => e = .returned (.tuple #[.pointer none, .bool false]) ∧ ∃ k, w' = W.drewN k := by
  obtain ⟨c0, c1, c2, c3, cf⟩ := h.cells
  have hl := h.look_ok hn
  rw [hx] at hl
  simp only [Option.isSome_none, Bool.false_eq_true, if_false] at hl
  clear h hx
  go_enter Tryz.func116, Tryz.ntmps116
  go_wp2_with fail
  go_region
  go_wp2_with fail
  go_ret2
  exact ⟨rfl, 1, rfl⟩
theorem place_any {b : Nat} {x : Nd} {v : Value} (hb : W.heap[b]? = some (.cells (ndC x v) 129)) (hr : Ro lo W v x.ins) (hs : Srt x.ins) (hl : x.ins.length < 1000) (s : ByteArray) :
    Calls Tryz.prog 207 #[P0 b, .string s] W fun e w' => e = .returned (.tuple #[I (pos x.ins s : Nat), .bool (getE x.ins s).isSome]) ∧ Below W.heap.size W w' := by
  obtain ⟨-, -, -, -, -, -, -, d7, -, -, df⟩ := ndcells hb
  have H := hide (search_any hr hs hl s)
  clear hb hr hs hl
  go_enter Tryz.func207, Tryz.ntmps207
  go_wp2_with (go_at_call 274; refine (unhide H).mono ?_; rintro e w' ⟨rfl, hB⟩)
  go_ret2
  exact ⟨rfl, hB⟩
set_option maxHeartbeats 1000000 in
theorem find_any {b : Nat} {x : Nd} {v : Value} (hb : W.heap[b]? = some (.cells (ndC x v) 129)) (hr : Ro lo W v x.ins) (hs : Srt x.ins) (hl : x.ins.length < 1000) (s : ByteArray) :
    Calls Tryz.prog 117 #[P0 b, .string s] W fun e w' => e = .returned (.tuple #[I ((getE x.ins s).getD 0), .bool (getE x.ins s).isSome]) ∧ Below W.heap.size W w' := by
  obtain ⟨P, hP⟩ : ∃ P, P = pos x.ins s := ⟨_, rfl⟩
  have hat := (hs.at_pos s).2
  rw [← hP] at hat
  have H0 := place_any hb hr hs hl s
  rw [← hP] at H0
  cases e : getE x.ins s with
  | none =>
    rw [e] at H0
    have H := hide H0
    clear hb hr hs hl H0 hat hP e
    go_enter Tryz.func117, Tryz.ntmps117
    go_wp2_with (go_at_call 207; refine (unhide H).mono ?_; rintro e w' ⟨rfl, hB⟩)
    go_ret2
    exact ⟨rfl, hB⟩
  | some n =>
    rw [e] at H0
    have hPe := hat n e
    obtain ⟨hPl, -⟩ := List.getElem?_eq_some_iff.1 hPe
    rcases hr.open' with ⟨rfl, hz⟩ | ⟨g, cap, rfl, hcap, hcm, hlo, hgl, hcells⟩
    · rw [hz] at hPl; simp at hPl
    obtain ⟨k1, k2⟩ := hcells P s n hPe
    obtain ⟨L, hL⟩ : ∃ L, L = x.ins.length := ⟨_, rfl⟩
    rw [← hL] at hb hPl hl hcap
    have q1 : (P : Int) < (L : Int) := by omega
    have q2 : (0 : Int) ≤ (P : Int) := by omega
    have hmx : cap ≤ 9223372036854775807 := by unfold maxLen at hcm; omega
    have HB := hide hb
    have H := hide H0
    clear hb hr hs hl H0 hat hP e hcells hPe hcm hL
    go_enter Tryz.func117, Tryz.ntmps117
    go_wp2_with (go_at_call 207; refine (unhide H).mono ?_; rintro e w1 ⟨rfl, hB⟩; have HBB := hide hB; obtain ⟨-, -, -, -, -, -, -, d7, -, -, df⟩ := ndcells ((hB.block b (lt_of_heap (unhide HB))).trans (unhide HB)); have hgw := hB.block g hgl; have c1 : w1.cell? ⟨g, P * 2, none⟩ = some (.string s) := (cell_same hgw _).trans k1; have c2 : w1.cell? ⟨g, P * 2 + 1, none⟩ = some (.int .i64 n) := (cell_same hgw _).trans k2; clear hB hgw k1 k2)
    go_ret2
    exact ⟨rfl, unhide HBB⟩
set_option maxHeartbeats 1000000 in
theorem refuses_any {b : Nat} {x : Nd} {v : Value} (hb : W.heap[b]? = some (.cells (ndC x v) 129)) (hr : Ro lo W v x.ins) (hs : Srt x.ins) (hl : x.ins.length < 1000) (s : ByteArray) :
    Calls Tryz.prog 123 #[P0 b, .string s] W fun e w' => e = .returned (I (refusesE x s)) ∧ Below W.heap.size W w' := by
  have H := hide (find_any hb hr hs hl s)
  have HB := hide hb
  obtain ⟨o, ho⟩ : ∃ o, o = getE x.ins s := ⟨_, rfl⟩
  rw [← ho] at H
  unfold refusesE
  rw [← ho]
  clear hb hr hs hl ho
  cases o with
  | some n =>
    simp only [Option.isSome_some, if_true]
    go_enter Tryz.func123, Tryz.ntmps123
    go_wp2_with (go_at_call 117; refine (unhide H).mono ?_; rintro e w' ⟨rfl, hB⟩)
    go_ret
    exact ⟨rfl, hB⟩
  | none =>
    simp only [Option.isSome_none, Bool.false_eq_true, if_false]
    have H4 : Hid (∀ w1, Below W.heap.size W w1 → w1.cell? ⟨b, 4, none⟩ = some (I (x.names : Int)) ∧ ∀ i, w1.frozen? ⟨b, i, none⟩ = false) := fun w1 hB => by
      obtain ⟨-, -, -, -, d4, -, -, -, -, -, df⟩ := ndcells ((hB.block b (lt_of_heap (unhide HB))).trans (unhide HB))
      exact ⟨d4, df⟩
    obtain ⟨k, hk⟩ : ∃ k, k = x.names := ⟨_, rfl⟩
    rw [← hk] at H4 ⊢
    clear hk HB
    by_cases hz : k = 0
    · subst hz
      go_enter Tryz.func123, Tryz.ntmps123
      go_wp2_with (go_at_call 117; refine (unhide H).mono ?_; rintro e w1 ⟨rfl, hB⟩; obtain ⟨d4, df⟩ := unhide H4 w1 hB; have HBB := hide hB; clear hB)
      go_ret
      exact ⟨rfl, unhide HBB⟩
    · have hz2 : ¬ ((k : Int) = 0) := by omega
      go_enter Tryz.func123, Tryz.ntmps123
      go_wp2_with (go_at_call 117; refine (unhide H).mono ?_; rintro e w1 ⟨rfl, hB⟩; obtain ⟨d4, df⟩ := unhide H4 w1 hB; have HBB := hide hB; clear hB)
      go_ret
      exact ⟨rfl, unhide HBB⟩
end
end Go.Proofs.YtlngeaacjbdmhaaGreat

namespace Go.Proofs.YtlngeaacjbdmhaaGreat
open Go.RowKit Go.Maps
section
variable {lo N : Nat} {W W' : World} {t : Nat} {T : Tr} {q p : Nat} {nb : Int → Nat} {ev : Int → Value} {B : Nat}
theorem below_n (W : World) (k : Nat) : Below W.heap.size W (W.drewN k) := below_dn (Below.refl _ W) k
set_option maxHeartbeats 1000000 in
theorem tfind_any (h : TrI lo N W t T q p nb ev) (hw : Wk B T) (hB : B ≤ 900) {n : Int} (hn : (kl n).wf = true) (s : ByteArray) :
    Calls Tryz.prog 55 #[P0 t, I n, .string s] W fun e w' => e = .returned (.tuple #[I ((T.findN n s).getD 0), .bool (T.findN n s).isSome]) ∧ Below W.heap.size W w' := by
  cases hx : T.nd n with
  | none =>
    have H := hide (dir_none h hn hx)
    have hd : T.findN n s = none := by simp [Tr.findN, Tr.dir, hx]
    rw [hd]
    clear h hx
    go_enter Tryz.func55, Tryz.ntmps55
    go_wp2_with (go_at_call 116; refine (unhide H).mono ?_; rintro e w' ⟨rfl, k, rfl⟩)
    go_ret2
    exact ⟨rfl, below_n _ _⟩
  | some x =>
    have H0 := dir_some h hn hx
    by_cases hk : x.kind = 1
    · have hd : T.findN n s = getE x.ins s := by simp [Tr.findN, Tr.dir, hx, hk]
      rw [hd]
      simp only [hk, decide_true] at H0
      have H := hide H0
      have H2 : Hid (∀ k, Calls Tryz.prog 117 #[P0 (nb n), .string s] (W.drewN k) fun e w' => e = .returned (.tuple #[I ((getE x.ins s).getD 0), .bool (getE x.ins s).isSome]) ∧ Below W.heap.size W w') := fun k =>
        (find_any (lo := lo) (W := W.drewN k) (h.hn n x hx).1 ((h.hn n x hx).2.below (below_n W k)) (hw.srt n x hx) (by have := (hw.bnd n x hx).2.2; omega) s).mono fun e w' ⟨h1, h2⟩ => ⟨h1, (below_n W k).trans h2⟩
      clear h hx H0 hd hw
      go_enter Tryz.func55, Tryz.ntmps55
      go_wp2_with (first | (go_at_call 116; refine (unhide H).mono ?_; rintro e w' ⟨rfl, k, rfl⟩) | (go_at_call 117; refine (unhide H2 _).mono ?_; rintro e w' ⟨rfl, hB2⟩))
      go_ret2
      exact ⟨rfl, hB2⟩
    · have hd : T.findN n s = none := by simp [Tr.findN, Tr.dir, hx, hk]
      rw [hd]
      simp only [hk, decide_false] at H0
      have H := hide H0
      clear h hx H0 hd hw
      go_enter Tryz.func55, Tryz.ntmps55
      go_wp2_with (go_at_call 116; refine (unhide H).mono ?_; rintro e w' ⟨rfl, k, rfl⟩)
      go_ret2
      exact ⟨rfl, below_n _ _⟩
set_option maxHeartbeats 1000000 in
theorem up_any (h : TrI lo N W t T q p nb ev) {n : Int} (hn : (kl n).wf = true) :
    Calls Tryz.prog 89 #[P0 t, I n] W fun e w' => e = .returned (I (T.up n)) ∧ ∃ k, w' = W.drewN k := by
  cases hx : T.nd n with
  | none =>
    have H := hide (dir_none h hn hx)
    have hd : T.up n = 0 := by simp [Tr.up, Tr.dir, hx]
    rw [hd]
    clear h hx
    go_enter Tryz.func89, Tryz.ntmps89
    go_wp2_with (go_at_call 116; refine (unhide H).mono ?_; rintro e w' ⟨rfl, k, rfl⟩)
    go_ret
    exact ⟨rfl, _, rfl⟩
  | some x =>
    have H0 := dir_some h hn hx
    by_cases hk : x.kind = 1
    · simp only [hk, decide_true] at H0
      have H := hide H0
      have HC : Hid (∀ k, (W.drewN k).cell? ⟨nb n, 4, none⟩ = some (I (x.names : Int)) ∧ (W.drewN k).cell? ⟨nb n, 6, none⟩ = some (I x.up) ∧ ∀ i, (W.drewN k).frozen? ⟨nb n, i, none⟩ = false) := fun k => by
        obtain ⟨-, -, -, -, d4, -, d6, -, -, -, df⟩ := ndcells (h.hn n x hx).1
        exact ⟨d4, d6, df⟩
      have hd : T.up n = if x.names = 0 then n else x.up := by simp [Tr.up, Tr.dir, hx, hk]
      rw [hd]
      obtain ⟨m, hm⟩ : ∃ m, m = x.names := ⟨_, rfl⟩
      rw [← hm] at HC ⊢
      clear h hx H0 hd hm
      by_cases hz : m = 0
      · subst hz
        go_enter Tryz.func89, Tryz.ntmps89
        go_wp2_with (go_at_call 116; refine (unhide H).mono ?_; rintro e w' ⟨rfl, k, rfl⟩; obtain ⟨d4, d6, df⟩ := unhide HC k)
        go_ret
        exact ⟨rfl, _, rfl⟩
      · have hz2 : ¬ ((m : Int) = 0) := by omega
        rw [if_neg hz]
        go_enter Tryz.func89, Tryz.ntmps89
        go_wp2_with (go_at_call 116; refine (unhide H).mono ?_; rintro e w' ⟨rfl, k, rfl⟩; obtain ⟨d4, d6, df⟩ := unhide HC k)
        go_ret
        exact ⟨rfl, _, rfl⟩
    · have hd : T.up n = 0 := by simp [Tr.up, Tr.dir, hx, hk]
      rw [hd]
      simp only [hk, decide_false] at H0
      have H := hide H0
      clear h hx H0 hd
      go_enter Tryz.func89, Tryz.ntmps89
      go_wp2_with (go_at_call 116; refine (unhide H).mono ?_; rintro e w' ⟨rfl, k, rfl⟩)
      go_ret
      exact ⟨rfl, _, rfl⟩
theorem left_any (h : TrI lo N W t T q p nb ev) (hw : Wk B T) (hB : B ≤ 900) : Calls Tryz.prog 86 #[P0 t] W fun e w' => e = .returned (I T.left) ∧ ∃ k, w' = W.drewN k := by
  obtain ⟨c0, c1, c2, c3, cf⟩ := h.cells
  have hl := fun ty => h.hm.len htN (n := T.made + 1) (by have := hw.made; omega) (fun k _ e => hw.sup k (by simpa using e)) ty
  have hc : cnt (T.made + 1) (fun k => ((if (T.nd (k : Int)).isSome = true then some (P0 (nb (k : Int))) else none)).isSome) = T.live := cnt_congr fun k _ => by cases (T.nd (k : Int)).isSome <;> rfl
  have hl2 := fun ty => h.hm.drew.len htN (n := T.made + 1) (by have := hw.made; omega) (fun k _ e => hw.sup k (by simpa using e)) ty
  rw [hc] at hl hl2
  have hl1 : T.live ≤ 901 := by have := cnt_le (T.made + 1) (fun k => (T.nd (k : Int)).isSome); have := hw.made; simp only [Tr.live]; omega
  have hm := hw.mst
  unfold Tr.left
  obtain ⟨L, hL⟩ : ∃ L, L = T.live := ⟨_, rfl⟩
  obtain ⟨M, hM⟩ : ∃ M, M = T.most := ⟨_, rfl⟩
  rw [← hL] at hl hl2 hl1 ⊢
  rw [← hM] at c0 hm ⊢
  have q1 : (L : Int) ≤ 901 := by omega
  have q2 : (M : Int) ≤ 64 := by omega
  clear h hw hL hM hc
  go_enter Tryz.func86, Tryz.ntmps86
  go_wp2_with fail
  go_region
  go_wp2_with fail
  go_ret
  exact ⟨rfl, 1, rfl⟩
theorem file_of (h : TrI lo N W t T q p nb ev) {n : Int} (hn : (kl n).wf = true) : Calls Tryz.prog 137 #[P0 t, I n] W fun e w' => e = .returned (I (T.fileOf n)) ∧ ∃ k, w' = W.drewN k := by
  obtain ⟨c0, c1, c2, c3, cf⟩ := h.cells
  have hl := h.look_ok hn
  cases hx : T.nd n with
  | none =>
    rw [hx] at hl
    simp only [Option.isSome_none, Bool.false_eq_true, if_false] at hl
    have hd : T.fileOf n = 0 := by simp [Tr.fileOf, hx]
    rw [hd]
    clear h hx
    go_enter Tryz.func137, Tryz.ntmps137
    go_wp2_with fail
    go_ret
    exact ⟨rfl, 0, rfl⟩
  | some x =>
    rw [hx] at hl
    simp only [Option.isSome_some, if_true] at hl
    obtain ⟨-, -, -, -, -, -, -, -, d8, -, df⟩ := ndcells (h.hn n x hx).1
    have hd : T.fileOf n = x.file := by simp [Tr.fileOf, hx]
    rw [hd]
    clear h hx
    go_enter Tryz.func137, Tryz.ntmps137
    go_wp2_with fail
    go_ret
    exact ⟨rfl, 0, rfl⟩
theorem text_any (h : TrI lo N W t T q p nb ev) (hw : Wk B T) {n : Int} (hn : (kl n).wf = true) : Calls Tryz.prog 58 #[P0 t, I n] W fun e w' => e = .returned (.string (T.textOf n)) ∧ Below W.heap.size W w' := by
  obtain ⟨c0, c1, c2, c3, cf⟩ := h.cells
  have hl := h.look_ok hn
  cases hx : T.nd n with
  | none =>
    rw [hx] at hl
    simp only [Option.isSome_none, Bool.false_eq_true, if_false] at hl
    have hd : T.textOf n = ⟨#[]⟩ := by simp [Tr.textOf, hx]
    rw [hd]
    clear h hx
    go_enter Tryz.func58, Tryz.ntmps58
    go_wp2_with fail
    go_ret
    exact ⟨rfl, Below.refl _ _⟩
  | some x =>
    rw [hx] at hl
    simp only [Option.isSome_some, if_true] at hl
    obtain ⟨-, -, -, -, -, -, -, -, -, d9, df⟩ := ndcells (h.hn n x hx).1
    have hd : T.textOf n = x.text := by simp [Tr.textOf, hx]
    rw [hd]
    have H := hide (fun w => clone_any x.text w (hw.txt n x hx))
    clear h hx hw
    go_enter Tryz.func58, Tryz.ntmps58
    go_wp2_with (go_at_call 119; refine (unhide H _).mono ?_; rintro e w' ⟨rfl, hB⟩)
    go_ret
    exact ⟨rfl, hB⟩
end
end Go.Proofs.YtlngeaacjbdmhaaGreat

namespace Go.Proofs.YtlngeaacjbdmhaaGreat
open Go.RowKit
theorem wpIn_range_own {F : Fence} {n : Nat} {P : Program} {g : Operand} {ps : Array Tmp} {assign body : Code} {Q : Exit → Act → World → Prop} {a : Act} {w : World}
    (hro : F.round = none) (h1 : 1 ≤ n) {gf : Nat} {lb : Array Value} (hg : a.eval g = .func (.func gf) #[] lb) (hFg : F.fn gf) (eg : ∀ args w, (callFunc gf args).run P w = .ok (.enter gf args) w)
    (h : ∀ r : Loop, F.fn r.fn → r.state = .ready → r.pending = none → r.tmps = a.tmps → r.params = ps → r.assign = assign → r.body = body →
      CallsIn F (n - 1) P gf (#[.func (.yield (w.heap.size + 1)) #[] #[]] ++ lb) ((w.alloc (.deferred (some []))).alloc (.loop r))
        fun e W2 => (∃ v, e = .returned v) ∧ W2.heap[w.heap.size + 1]? = some (.loop r) ∧
          Q .normal { a with defers := { target := .collected w.heap.size, args := #[] } :: a.defers } (W2.putObj (w.heap.size + 1) (.loop { r with state := .exhausted }))) :
    (Code.rangeFunc g ps assign body).wpIn F n P Q a w := by
  refine wpIn_rangeFunc ?_
  intro fn hfn
  rw [hro]
  obtain ⟨r, hr⟩ : ∃ r : Loop, r = { state := .ready, pending := none, fn, tmps := a.tmps, params := ps, assign, body, defers := w.heap.size } := ⟨_, rfl⟩
  refine ⟨w.heap.size + 1, [{ target := .collected w.heap.size, args := #[] }], (w.alloc (.deferred (some []))).alloc (.loop r), { target := .fn (.func gf) lb, args := #[.func (.yield (w.heap.size + 1)) #[] #[]] },
    (w.alloc (.deferred (some []))).alloc (.loop r), gf, #[.func (.yield (w.heap.size + 1)) #[] #[]] ++ lb, (w.alloc (.deferred (some []))).alloc (.loop r), ?_, ?_, ?_, ?_, fun _ => h1, ?_⟩
  · rw [hr]; exact run_enterLoop_outer _ _ _ _ _
  · simp only [resolve, hg]
    simp [go_sem]
  · intro f' hf'; simp [Target.leads] at hf'; subst hf'; exact hFg
  · simp [invoke, go_sem, eg]
  · refine (h r (by rw [hr]; exact hfn) (by rw [hr]) (by rw [hr]) (by rw [hr]) (by rw [hr]) (by rw [hr]) (by rw [hr])).mono ?_
    rintro e W2 ⟨⟨v, rfl⟩, hl, hq⟩
    have hp : r.pending = none := by rw [hr]
    have he := run_endLoop (P := P) hl (by rw [hr]; simp)
    exact ⟨r.pending, _, he, by rw [hp]; rw [hp] at hq; exact hq⟩
theorem yield_own {F : Fence} {n : Nat} {P : Program} {l : Nat} {r : Loop} {args : Array Value} {W : World} {R : Ending → World → Prop} {tm : Array Value} {ps : Array Tmp} {assign body : Code}
    (hF : F.fn r.fn) (hst : r.state = .ready) (hpe : r.pending = none) (htm : r.tmps = tm) (hps : r.params = ps) (has : r.assign = assign) (hbo : r.body = body) (hs : args.size = ps.size) (hl : W.heap[l]? = some (.loop r))
    (h : ∀ rb : Loop, assign.wpIn (F.inRound l) n P (Exit.then (fun a₁ w₁ => w₁.heap[l]? = some (.loop r) ∧
      body.wpIn (F.inRound l) n P (fun e _ w => e = .normal ∧ w.heap[l]? = some (.loop rb) ∧ R (.returned (.bool true)) (w.putObj l (.loop r))) a₁ (w₁.putObj l (.loop rb))) (fun _ _ _ => False))
      { tmps := (ps.zip args).foldl (fun tmps (t, a) => tmps.setIfInBounds t a) tm, defers := [] } W) :
    YieldAt F n P l args W R := by
  subst htm hps has hbo
  refine ⟨r.fn, _, r.assign, r.body, run_yield (P := P) hl hs, roundIn_of_wpIn hF (wpIn_mono (h { r with state := .busy }) ?_)⟩
  intro e a₁ w₁ hq
  cases e with
  | normal =>
    obtain ⟨hl1, hb⟩ := hq
    refine ⟨_, run_beginRound hl1 hst, wpIn_mono hb ?_⟩
    rintro e a w ⟨rfl, hl2, hR⟩
    have he := run_endRound (P := P) none hl2
    refine ⟨_, _, he, ?_⟩
    have hrr : ({ state := LoopState.ready, pending := none, fn := r.fn, tmps := r.tmps, params := r.params, assign := r.assign, body := r.body, defers := r.defers } : Loop) = r := by
      cases r; simp at hst hpe; subst hst hpe; rfl
    simpa [hrr] using hR
  | ret => exact hq.elim
  | exit id => exact hq.elim
  | goto t => exact hq.elim
  | panic c => exact hq.elim
  | outgrown => exact hq.elim
theorem wpIn_range_ret {F : Fence} {n : Nat} {P : Program} {g : Operand} {ps : Array Tmp} {assign body : Code} {Q : Exit → Act → World → Prop} {a : Act} {w : World}
    (hro : F.round = none) (h1 : 1 ≤ n) {gf : Nat} {lb : Array Value} (hg : a.eval g = .func (.func gf) #[] lb) (hFg : F.fn gf) (eg : ∀ args w, (callFunc gf args).run P w = .ok (.enter gf args) w)
    (h : ∀ r : Loop, F.fn r.fn → r.state = .ready → r.pending = none → r.tmps = a.tmps → r.params = ps → r.assign = assign → r.body = body →
      CallsIn F (n - 1) P gf (#[.func (.yield (w.heap.size + 1)) #[] #[]] ++ lb) ((w.alloc (.deferred (some []))).alloc (.loop r))
        fun e W2 => (∃ v, e = .returned v) ∧ ((W2.heap[w.heap.size + 1]? = some (.loop r) ∧
          Q .normal { a with defers := { target := .collected w.heap.size, args := #[] } :: a.defers } (W2.putObj (w.heap.size + 1) (.loop { r with state := .exhausted }))) ∨
          ∃ rd : Loop, rd.state = .done ∧ rd.pending = some .ret ∧ W2.heap[w.heap.size + 1]? = some (.loop rd) ∧
          Q .ret { a with defers := { target := .collected w.heap.size, args := #[] } :: a.defers } (W2.putObj (w.heap.size + 1) (.loop { rd with state := .exhausted })))) :
    (Code.rangeFunc g ps assign body).wpIn F n P Q a w := by
  refine wpIn_rangeFunc ?_
  intro fn hfn
  rw [hro]
  obtain ⟨r, hr⟩ : ∃ r : Loop, r = { state := .ready, pending := none, fn, tmps := a.tmps, params := ps, assign, body, defers := w.heap.size } := ⟨_, rfl⟩
  refine ⟨w.heap.size + 1, [{ target := .collected w.heap.size, args := #[] }], (w.alloc (.deferred (some []))).alloc (.loop r), { target := .fn (.func gf) lb, args := #[.func (.yield (w.heap.size + 1)) #[] #[]] },
    (w.alloc (.deferred (some []))).alloc (.loop r), gf, #[.func (.yield (w.heap.size + 1)) #[] #[]] ++ lb, (w.alloc (.deferred (some []))).alloc (.loop r), ?_, ?_, ?_, ?_, fun _ => h1, ?_⟩
  · rw [hr]; exact run_enterLoop_outer _ _ _ _ _
  · simp only [resolve, hg]
    simp [go_sem]
  · intro f' hf'; simp [Target.leads] at hf'; subst hf'; exact hFg
  · simp [invoke, go_sem, eg]
  · refine (h r (by rw [hr]; exact hfn) (by rw [hr]) (by rw [hr]) (by rw [hr]) (by rw [hr]) (by rw [hr]) (by rw [hr])).mono ?_
    rintro e W2 ⟨⟨v, rfl⟩, ⟨hl, hq⟩ | ⟨rd, hd1, hd2, hl, hq⟩⟩
    · have hp : r.pending = none := by rw [hr]
      have he := run_endLoop (P := P) hl (by rw [hr]; simp)
      exact ⟨r.pending, _, he, by rw [hp]; rw [hp] at hq; exact hq⟩
    · have he := run_endLoop (P := P) hl (by rw [hd1]; simp)
      refine ⟨rd.pending, _, he, ?_⟩
      rw [hd2] at hq ⊢
      exact wpIn_ret hq
theorem yield_ret {F : Fence} {n : Nat} {P : Program} {l : Nat} {r : Loop} {args : Array Value} {W : World} {R : Ending → World → Prop} {tm : Array Value} {ps : Array Tmp} {assign body : Code}
    (hF : F.fn r.fn) (hst : r.state = .ready) (hpe : r.pending = none) (htm : r.tmps = tm) (hps : r.params = ps) (has : r.assign = assign) (hbo : r.body = body) (hs : args.size = ps.size) (hl : W.heap[l]? = some (.loop r))
    (h : ∀ rb : Loop, assign.wpIn (F.inRound l) n P (Exit.then (fun a₁ w₁ => w₁.heap[l]? = some (.loop r) ∧
      body.wpIn (F.inRound l) n P (fun e _ w => w.heap[l]? = some (.loop rb) ∧ ((e = .normal ∧ R (.returned (.bool true)) (w.putObj l (.loop r))) ∨ (e = .ret ∧ R (.returned (.bool false)) (w.putObj l (.loop { rb with state := .done, pending := some .ret }))))) a₁ (w₁.putObj l (.loop rb))) (fun _ _ _ => False))
      { tmps := (ps.zip args).foldl (fun tmps (t, a) => tmps.setIfInBounds t a) tm, defers := [] } W) :
    YieldAt F n P l args W R := by
  subst htm hps has hbo
  refine ⟨r.fn, _, r.assign, r.body, run_yield (P := P) hl hs, roundIn_of_wpIn hF (wpIn_mono (h { r with state := .busy }) ?_)⟩
  intro e a₁ w₁ hq
  cases e with
  | normal =>
    obtain ⟨hl1, hb⟩ := hq
    refine ⟨_, run_beginRound hl1 hst, wpIn_mono hb ?_⟩
    rintro e a w ⟨hl2, ⟨rfl, hR⟩ | ⟨rfl, hR⟩⟩
    · have he := run_endRound (P := P) none hl2
      refine ⟨_, _, he, ?_⟩
      have hrr : ({ state := LoopState.ready, pending := none, fn := r.fn, tmps := r.tmps, params := r.params, assign := r.assign, body := r.body, defers := r.defers } : Loop) = r := by
        cases r; simp at hst hpe; subst hst hpe; rfl
      simpa [hrr] using hR
    · have he := run_endRound (P := P) (some .ret) hl2
      refine ⟨_, _, he, ?_⟩
      simpa using hR
  | ret => exact hq.elim
  | exit id => exact hq.elim
  | goto t => exact hq.elim
  | panic c => exact hq.elim
  | outgrown => exact hq.elim
end Go.Proofs.YtlngeaacjbdmhaaGreat

namespace Go.Proofs.YtlngeaacjbdmhaaGreat
open Go.RowKit Go.Shelf
theorem putAll {w : World} (o : Obj) (h : Nat) (hh : h = w.heap.size) : (w.alloc o).heap[h]? = some o := by
  subst hh; exact heap_alloc_new w o
section
variable {n l : Nat} {P : Program} {ops : Array Oper} {Q : Exit → Act → World → Prop} {md : Region.Mode}
def noDefer (o : Oper) : Bool := match o.op with | .defer _ => false | _ => true
theorem noDefer_spec {o : Oper} (h : noDefer o = true) : ∀ c, o.op ≠ .defer c := by
  intro c hc
  simp [noDefer, hc] at h
theorem uponIn_round {o : Oper} {a : Act} {K : Act → World → Prop} {r : Result Next} (h : o.uponIn Fence.wide n P a K Q r) : o.uponIn (Fence.wide.inRound l) n P a K Q r := by
  cases r with
  | ok x w' => cases x <;> exact h
  | halt x w' => cases x <;> exact h
theorem wpOpIn_round {i : Nat} {K : Act → World → Prop} {a : Act} {w : World} (hd : ops.all noDefer = true) (h : wpOpIn Fence.wide n P ops Q i K a w) : wpOpIn (Fence.wide.inRound l) n P ops Q i K a w := by
  unfold wpOpIn at *
  cases ho : ops[i]? with
  | none => simpa [ho] using h
  | some o =>
    simp only [ho] at h ⊢
    have hn : ∀ c, o.op ≠ .defer c := noDefer_spec (by
      obtain ⟨hl, he⟩ := Array.getElem?_eq_some_iff.1 ho
      rw [Array.all_eq_true] at hd
      rw [← he]; exact hd i hl)
    split
    · rename_i hw
      simp only [hw, if_true] at h
      refine ⟨fun _ _ => trivial, ?_⟩
      have h2 := h.2
      rw [show (Fence.wide.inRound l).round = some l from rfl, Oper.semAt_some _ _ _ hn]
      rw [show Fence.wide.round = none from rfl, Oper.semAt_none] at h2
      exact uponIn_round h2
    · rename_i hw
      simp only [hw] at h
      exact h
theorem wpAnyIn_round (hd : ops.all noDefer = true) : ∀ (fuel : Nat) (listed : Array Bool) (a : Act) (w : World), wpAnyIn Fence.wide n P md ops Q fuel listed a w → wpAnyIn (Fence.wide.inRound l) n P md ops Q fuel listed a w
  | 0, _, _, _, h => h
  | fuel + 1, _, _, _, h => ⟨h.1, fun i hi => wpOpIn_mono (fun a w hh => wpAnyIn_round hd fuel _ a w hh) (wpOpIn_round hd (h.2 i hi))⟩
theorem wpIn_region_round {id : Nat} {a : Act} {w : World} (hm : P.follows .mixedOrders = true) (hd : ops.all noDefer = true)
    (h : wpAnyIn Fence.wide n P .any ops Q ops.size (Array.replicate ops.size false) a w.drew) : (Code.region id ops true).wpIn (Fence.wide.inRound l) n P Q a w :=
  wpIn_region_any hm (wpAnyIn_round hd _ _ _ _ h)
theorem stepIn_append_eq {w : World} {o : Oper} {a : Act} {K : Act → World → Prop} {E : Prop} (hgd : o.guard = none) (s x : Operand) (t : TypeId)
    (ho : o.op = .call { callee := .builtin .append, args := #[s, x], argTypes := #[t, t] }) (ty : TypeId) (hty : o.type = ty) (vs vx : Value) (hs : a.eval s = vs) (hx : a.eval x = vx) (v' : Value) (w' : World)
    (hrun : (Builtin.append_ #[t, t] ty #[vs, vx]).run P w = .ok v' w') (h : K (a.put o.dst v') w') :
    if Region.wanted o (yielded ops a.tmps) = true then Oper.wpIn Fence.wide n P o a w K Q else E := by
  have hw : Region.wanted o (yielded ops a.tmps) = true := by simp [Region.wanted, hgd]
  rw [if_pos hw]
  refine ⟨fun _ _ => trivial, ?_⟩
  rw [show Fence.wide.round = none from rfl, Oper.semAt_none]
  unfold execOp
  simp only [ho, resolve, invoke, builtin, Sem.run_bind, Sem.run_pure, Result.andThen_ok, List.map_toArray, List.map_cons, List.map_nil, hs, hx, hty, hrun]
  exact h
end
theorem grown_keep {W W5 : World} {base : Nat} {e : TypeId} {s n k : Nat} {v : Value} {xs : List Value} {o o' : Obj} (own : W.ownsRow base e s v n xs) (hg : (W.alloc o').grownBy W5 v.ownBlock) (h : W.heap[k]? = some o) (hne : ∀ cur, o ≠ .cells cur e (0, 0)) : W5.heap[k]? = some o := by
  have h3 := hg.block k (by simp; exact Nat.lt_succ_of_lt (lt_of_heap h)) (own_ne own h hne)
  rw [Below.heap_alloc _ _ _ (lt_of_heap h)] at h3
  exact h3.trans h
structure Fy (w W : World) (r : Loop) (h L D x b : Nat) : Prop where
  l : W.heap[L]? = some (.loop r)
  dd : W.heap[D]? = some (.deferred (some []))
  xx : W.heap[x]? = some (.cells #[.pointer (some ⟨b, 0, none⟩)] 130)
  be : Below h w W
theorem Fy.of {w W W' : World} {r r' : Loop} {h L D x b : Nat} (J : Fy w W r h L D x b) (hl : W'.heap[L]? = some (.loop r')) (hb : Below h w W') (hk : ∀ k, k < W.heap.size → k ≠ L → W'.heap[k]? = W.heap[k]?) : Fy w W' r' h L D x b := by
  have kp : ∀ {k : Nat} {o : Obj}, W.heap[k]? = some o → o ≠ .loop r → W'.heap[k]? = some o := fun h1 h2 => (hk _ (lt_of_heap h1) (by rintro rfl; rw [J.l] at h1; exact h2 (Option.some.inj h1).symm)).trans h1
  exact ⟨hl, kp J.dd (by simp), kp J.xx (by simp), hb⟩
theorem put_other {W : World} {r r' : Loop} {L k : Nat} {o : Obj} (hl : W.heap[L]? = some (.loop r)) (h : W.heap[k]? = some o) (hne : ∀ r, o ≠ .loop r) : (W.putObj L (.loop r')).heap[k]? = some o :=
  (World.putObj_heap_other (by rintro rfl; rw [hl] at h; exact hne _ (Option.some.inj h).symm)).trans h
theorem Fy.put {w W : World} {r : Loop} {h L D x b : Nat} (J : Fy w W r h L D x b) (r' : Loop) (hL : h ≤ L) : Fy w (W.putObj L (.loop r')) r' h L D x b :=
  J.of (World.putObj_heap_same (lt_of_heap J.l)) ⟨J.be.os, J.be.tape, J.be.output, by rw [World.putObj_size]; exact J.be.size, fun k hk => (World.putObj_heap_other (by omega)).trans (J.be.block k hk)⟩ (fun _ _ hk => World.putObj_heap_other hk)
theorem own_put {W : World} {r r' : Loop} {L base : Nat} {e : TypeId} {s n : Nat} {v : Value} {xs : List Value} (h : W.ownsRow base e s v n xs) (hl : W.heap[L]? = some (.loop r)) : (W.putObj L (.loop r')).ownsRow base e s v n xs :=
  own_keep h fun k cur hc => (put_other hl hc (by simp)).trans hc.symm
theorem box_more {w W : World} {r : Loop} {h L D x b H : Nat} {v : Value} {xs : List Value} {o' : Obj} {t : TypeId} {e : TypeId} {s : Nat} {n : Nat} {news : List Value} {v' : Value} {W5 : World} (J : Fy w W r h L D x b) (k1 : W.heap[H]? = some (.cells #[v] t)) (own : W.ownsRow h e s v n xs)
    (hg : (W.alloc o').grownBy W5 v.ownBlock) (own' : W5.ownsRow h e s v' (n + 1) (xs ++ news)) (hH : h ≤ H) (ht : t ≠ e) (hx : (130 : TypeId) ≠ e) (ht2 : t ≠ 130) :
    Fy w (W5.setCell ⟨H, 0, none⟩ v') r h L D x b ∧ W5.heap[H]? = some (.cells #[v] t) ∧ (W5.setCell ⟨H, 0, none⟩ v').heap[H]? = some (.cells #[v'] t) ∧ (W5.setCell ⟨H, 0, none⟩ v').ownsRow h e s v' (n + 1) (xs ++ news) := by
  have hs := J.be.size
  have H5 := grown_keep own hg k1 (by intro cur hc; simp at hc; exact ht hc.2)
  have kp : ∀ {k : Nat} {o : Obj}, W.heap[k]? = some o → (∀ cur, o ≠ .cells cur e (0, 0)) → k ≠ H → (W5.setCell ⟨H, 0, none⟩ v').heap[k]? = some o :=
    fun h1 h2 h3 => (Below.heap_setCell _ _ _ _ h3).trans (grown_keep own hg h1 h2)
  have ne : ∀ {k : Nat} {o : Obj}, W.heap[k]? = some o → (∀ cur, o ≠ .cells cur t (0, 0)) → k ≠ H := by
    rintro k o h1 h2 rfl
    rw [k1] at h1
    exact h2 _ (Option.some.inj h1).symm
  have hhW : h ≤ W.heap.size := by have := lt_of_heap k1; omega
  have own1 : (W.alloc o').ownsRow h e s v n xs := own_keep own fun k cur hc => Below.heap_alloc _ _ _ (lt_of_heap hc)
  have hbe : Below h w W5 := below_grown (J.be.alloc hhW _) own1 hg (by simp; omega)
  refine ⟨⟨kp J.l (by simp) (ne J.l (by simp)), kp J.dd (by simp) (ne J.dd (by simp)), kp J.xx (by intro cur hc; simp at hc; exact hx hc.2) (ne J.xx (by intro cur hc; simp at hc; exact ht2 hc.2.symm)), hbe.setCell (p := ⟨H, 0, none⟩) hH _⟩, H5, ?_, ?_⟩
  · rw [heap_set H5]; simp
  · refine own_keep own' fun k cur hc => Below.heap_setCell _ _ _ _ ?_
    rintro rfl
    rw [H5] at hc
    simp at hc
    exact ht hc.2
theorem setup (w : World) (r : Loop) : ((w.alloc (.deferred (some []))).alloc (.loop r)).heap[w.heap.size + 1]? = some (.loop r) ∧ ((w.alloc (.deferred (some []))).alloc (.loop r)).heap[w.heap.size]? = some (.deferred (some [])) ∧ Below w.heap.size w ((w.alloc (.deferred (some []))).alloc (.loop r)) :=
  ⟨putAll _ _ (by simp), (Below.heap_alloc _ _ _ (by simp)).trans (putAll _ _ rfl), ((Below.refl _ _).alloc (Nat.le_refl _) _).alloc (by simp) _⟩
theorem two0 (w : World) (o1 o2 : Obj) : ∃ V : World, ((w.alloc o1).alloc o2) = V ∧ V.heap.size = w.heap.size + 2 ∧ V.heap[w.heap.size]? = some o1 ∧ V.heap[w.heap.size + 1]? = some o2 ∧ Below w.heap.size w V := by
  refine ⟨_, rfl, by simp, ?_, ?_, ?_⟩
  · rw [Below.heap_alloc _ _ _ (by simp)]; exact putAll _ _ rfl
  · exact putAll _ _ (by simp)
  · exact ((Below.refl w.heap.size w).alloc (Nat.le_refl _) o1).alloc (by simp) o2
theorem four0 (w : World) (o1 o2 o3 o4 : Obj) : ∃ V : World, (((w.alloc o1).alloc o2).alloc o3).alloc o4 = V ∧ V.heap.size = w.heap.size + 4 ∧ V.heap[w.heap.size]? = some o1 ∧ V.heap[w.heap.size + 1]? = some o2 ∧ V.heap[w.heap.size + 2]? = some o3 ∧ V.heap[w.heap.size + 3]? = some o4 ∧ Below w.heap.size w V := by
  obtain ⟨V, hV, hs, g0, g1, hB⟩ := two0 w o1 o2
  obtain ⟨V2, hV2, hs2, g2, g3, hB2⟩ := two0 V o3 o4
  rw [hV, hV2]
  rw [hs] at g2 g3 hs2
  exact ⟨V2, rfl, hs2, (hB2.block _ (by omega)).trans g0, (hB2.block _ (by omega)).trans g1, g2, g3, hB.trans (hB2.mono (by omega))⟩
theorem three0 (w : World) (o1 o2 o3 : Obj) : ∃ V : World, ((w.alloc o1).alloc o2).alloc o3 = V ∧ V.heap.size = w.heap.size + 3 ∧ V.heap[w.heap.size]? = some o1 ∧ V.heap[w.heap.size + 1]? = some o2 ∧ V.heap[w.heap.size + 2]? = some o3 ∧ Below w.heap.size w V := by
  obtain ⟨V, hV, hs, g0, g1, hB⟩ := two0 w o1 o2
  rw [hV]
  refine ⟨_, rfl, by simp [hs], (Below.heap_alloc _ _ _ (by omega)).trans g0, (Below.heap_alloc _ _ _ (by omega)).trans g1, putAll _ _ hs.symm, hB.alloc (by omega) o3⟩
end Go.Proofs.YtlngeaacjbdmhaaGreat

namespace Go.Proofs.YtlngeaacjbdmhaaGreat
open Go.RowKit Go.Shelf
attribute [local go_sem] Oper.semAt_some
theorem inOrder_any (b : Nat) (w : World) : Calls Tryz.prog 118 #[P0 b] w fun e w' => e = .returned (.func (.func 208) #[] #[.pointer (some ⟨w.heap.size, 0, none⟩)]) ∧ w' = w.alloc (.cells #[.pointer (some ⟨b, 0, none⟩)] 130) := by
  go_enter Tryz.func118, Tryz.ntmps118
  go_wp2
  go_ret
  exact ⟨rfl, rfl⟩
set_option maxRecDepth 100000 in
set_option maxHeartbeats 1000000 in
theorem iter_some (l x b g m cap : Nat) (es : Ents) (W : World) (J : Nat → World → Prop) (hl : es.length = m) (hm : m ≤ 1000) (hJ0 : J 0 W)
    (hJA : ∀ i W', J i W' → W'.cell? ⟨x, 0, none⟩ = some (.pointer (some ⟨b, 0, none⟩)) ∧ W'.cell? ⟨b, 7, none⟩ = some (.slice (some ⟨g, 0, none⟩) m cap) ∧ ∀ (k : Nat) (a : ByteArray) (n : Int), es[k]? = some (a, n) → W'.cell? ⟨g, k * 2, none⟩ = some (.string a) ∧ W'.cell? ⟨g, k * 2 + 1, none⟩ = some (.int .i64 n))
    (hY : ∀ (i : Nat) W' a n, J i W' → es[i]? = some (a, n) → YieldAt Fence.wide (3 - 1) Tryz.prog l #[.string a, .int .i64 n] W' fun e W2 => e = .returned (.bool true) ∧ J (i + 1) W2) (hJL : ∀ i W' o, J i W' → J i (W'.alloc o)) :
    CallsIn Fence.wide 3 Tryz.prog 208 #[.func (.yield l) #[] #[], .pointer (some ⟨x, 0, none⟩)] W fun e W' => e = .returned (.tuple #[]) ∧ J m W' := by
  have hro : Fence.wide.round = none := rfl
  have HY := hide hY
  have HA := hide hJA
  have HLL := hide hJL
  have HL := hide hl
  obtain ⟨x0, b1, -⟩ := hJA 0 W hJ0
  clear hY hJA hJL hl
  refine callsIn_of_wp Tryz.func208 rfl trivial ?_ hro
  simp only [Tryz.ntmps208, List.size_toArray, List.length_cons, List.length_nil, Nat.reduceAdd, Nat.reduceSub, Array.replicate_succ, Array.replicate_zero, List.push_toArray, List.append_toArray, List.nil_append, List.cons_append]
  gi_wp2_with fail
  clear x0 b1
  gi_loopw [10] (fun i wr => ∃ k : Nat, k ≤ m ∧ i = .int .i64 k ∧ J k wr) (fun i _ => m - (intOf i).toNat)
  case atStart => exact ⟨0, Nat.zero_le _, rfl, hJ0⟩
  case round =>
    obtain ⟨k, hk, rfl, hJ⟩ := hrel
    by_cases hkn : k < m
    · obtain ⟨⟨a, n⟩, he⟩ : ∃ e, es[k]? = some e := ⟨_, List.getElem?_eq_getElem (by have := unhide HL; omega)⟩
      obtain ⟨x1, b1, hcs⟩ := unhide HA k wr hJ
      obtain ⟨y1, y2⟩ := hcs k a n he
      have j1 : (k : Int) < (m : Int) := by omega
      have j0 : (0 : Int) ≤ (k : Int) := by omega
      obtain ⟨fn, tmps, assign, body, hyy, hR⟩ := unhide HY k (wr.alloc (.cells #[.string a, .int .i64 n] 256)) a n (unhide HLL k wr _ hJ) he
      clear hJ hcs he
      gi_wp2_with fail
      refine hR.mono ?_
      rintro e W2 ⟨rfl, hJ2⟩
      gi_wp2_with fail
      go_roundw
      case rel => exact ⟨k + 1, by omega, by go_num, hJ2⟩
      case measure => simp [intOf]; omega
    · obtain rfl : k = m := by omega
      obtain ⟨x1, b1, -⟩ := unhide HA k wr hJ
      clear hkn
      gi_wp2_with fail
      go_end0
      exact ⟨rfl, hJ⟩
set_option maxRecDepth 100000 in
set_option maxHeartbeats 1000000 in
theorem iter_none (l x b : Nat) (W : World) (x0 : W.cell? ⟨x, 0, none⟩ = some (.pointer (some ⟨b, 0, none⟩))) (b1 : W.cell? ⟨b, 7, none⟩ = some (.slice none 0 0)) :
    CallsIn Fence.wide 3 Tryz.prog 208 #[.func (.yield l) #[] #[], .pointer (some ⟨x, 0, none⟩)] W fun e W' => e = .returned (.tuple #[]) ∧ W' = W := by
  have hro : Fence.wide.round = none := rfl
  refine callsIn_of_wp Tryz.func208 rfl trivial ?_ hro
  simp only [Tryz.ntmps208, List.size_toArray, List.length_cons, List.length_nil, Nat.reduceAdd, Nat.reduceSub, Array.replicate_succ, Array.replicate_zero, List.push_toArray, List.append_toArray, List.nil_append, List.cons_append]
  gi_wp2_with fail
  clear x0 b1
  gi_loopw [10] (fun i wr => i = .int .i64 0 ∧ wr = W) (fun _ _ => 0)
  case atStart => exact ⟨rfl, rfl⟩
  case round =>
    obtain ⟨rfl, rfl⟩ := hrel
    gi_wp2_with fail
    go_end0
    exact ⟨rfl, rfl⟩
theorem iter_go {lo : Nat} {V : World} {v : Value} (l x b : Nat) (es : Ents) (W : World) (J : Nat → World → Prop) (hr : Ro lo V v es) (hm : es.length ≤ 1000) (hJ0 : J 0 W)
    (hJA : ∀ i W', J i W' → Below V.heap.size V W' ∧ W'.cell? ⟨x, 0, none⟩ = some (.pointer (some ⟨b, 0, none⟩)) ∧ W'.cell? ⟨b, 7, none⟩ = some v)
    (hY : ∀ (i : Nat) W' a n, J i W' → es[i]? = some (a, n) → YieldAt Fence.wide (3 - 1) Tryz.prog l #[.string a, .int .i64 n] W' fun e W2 => e = .returned (.bool true) ∧ J (i + 1) W2) (hJL : ∀ i W' o, J i W' → J i (W'.alloc o)) :
    CallsIn Fence.wide 3 Tryz.prog 208 #[.func (.yield l) #[] #[], .pointer (some ⟨x, 0, none⟩)] W fun e W' => e = .returned (.tuple #[]) ∧ J es.length W' := by
  rcases hr.open' with ⟨rfl, rfl⟩ | ⟨g, cap, rfl, hcap, hcm, hlo, hgl, hcells⟩
  · obtain ⟨_, x0, b1⟩ := hJA 0 W hJ0
    refine (iter_none l x b W x0 b1).mono ?_
    rintro e W' ⟨rfl, rfl⟩
    exact ⟨rfl, hJ0⟩
  · refine iter_some l x b g es.length cap es W J rfl hm hJ0 (fun i W' hJ => ?_) hY hJL
    obtain ⟨hB, x0, b1⟩ := hJA i W' hJ
    refine ⟨x0, b1, fun k a n he => ?_⟩
    obtain ⟨h1, h2⟩ := hcells k a n he
    have hg := hB.block g hgl
    exact ⟨(cell_same hg _).trans h1, (cell_same hg _).trans h2⟩
end Go.Proofs.YtlngeaacjbdmhaaGreat
