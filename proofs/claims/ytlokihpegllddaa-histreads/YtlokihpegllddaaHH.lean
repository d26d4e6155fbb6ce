/-
  The contracts of order and of both Before.
-/
import Derived.Test.YtlokihpegllddaaHE
import Derived.Sort.Grow
namespace Go.Proofs.Ytlokihpegllddaa.Cl
open Go.RowKit Go.Shelf
attribute [local go_sem ↓] Go.wp_at_zero Go.wp_at_succ

theorem wpList_load_rowW {P : Program} {ops : Array Oper} {rest : List Oper} {o : Oper} {a : Act} {w : World} {Q : Exit → Act → World → Prop} (hw : Region.wanted o (yielded ops a.tmps) = true) (ty : TypeId) (x : Operand) (ho : o.op = .load ty x)
    (g : Nat) (hx : a.eval x = .pointer (some ⟨g, 0, none⟩)) (t : TypeId) (cs : Array Value) (fr : Nat × Nat) (d : TypeDesc) (hg : w.heap[g]? = some (.cells cs t fr))
    (hu : P.underlying ty = some d) (hd : (match d with | .struct _ | .array _ _ => true | _ => false) = true) (hi : (P.info? ty).map (·.size) = some cs.size)
    (h : wpList P ops Q rest (a.put o.dst (.agg cs)) w) : wpList P ops Q (o :: rest) a w := by
  unfold wpList
  rw [if_pos hw]
  left
  exact wp_load_row ty x ho g hx t cs fr d hg hu hd hi h
abbrev ci (x y : Int) : Int := Lib.compareInt x y
def orI (x y : Int) : Int := if x = 0 then y else x
def ordI (f1 t1 f2 t2 : Int) : Int := if ci f1 f2 = 0 then ci t1 t2 else ci f1 f2
theorem cmp_any (x y : Int) (w : World) : Calls Try.prog 32 #[I x, I y] w fun e w' => e = .returned (I (ci x y)) ∧ w' = w := AnyG.cmp_Compare_int Try.cmpI x y w
set_option maxRecDepth 100000 in
set_option maxHeartbeats 1000000 in
theorem or_any (x y : Int) (b : Nat) (w : World) (h0 : w.cell? ⟨b, 0, none⟩ = some (I x)) (h1 : w.cell? ⟨b, 1, none⟩ = some (I y)) :
    Calls Try.prog 31 #[.slice (some ⟨b, 0, none⟩) 2 2] w fun e w' => e = .returned (I (orI x y)) ∧ w' = w := by
  go_enter Try.func31, Try.ntmps31
  go_wp2_with fail
  go_loopw [8] (fun i wr => ∃ k : Nat, k ≤ 2 ∧ i = .int .i64 k ∧ wr = w ∧ (0 < k → x = 0) ∧ (1 < k → y = 0)) (fun i _ => 2 - (intOf i).toNat)
  case atStart => exact ⟨0, by omega, rfl, rfl, fun h => by omega, fun h => by omega⟩
  case round =>
    obtain ⟨k, hk, rfl, hw, hx, hy⟩ := hrel
    rw [hw]
    clear hw
    match k, hk with
    | 0, _ =>
      clear hx hy
      by_cases hx0 : x = 0
      · subst hx0
        go_wp2_with fail
        exact ⟨⟨1, by omega, (by first | rfl | trivial), (by first | rfl | trivial), by simp, by simp⟩, by simp [intOf]⟩
      · have e1 : (x != 0) = true := by simp [hx0]
        have hif : orI x y = x := if_neg hx0
        have HIF := hide hif
        clear hx0 hif
        go_wp2_with fail
        go_ret
        exact ⟨by rw [unhide HIF]; rfl, rfl⟩
    | 1, _ =>
      have hx0 : x = 0 := hx (by omega)
      subst hx0
      clear hx hy
      by_cases hy0 : y = 0
      · subst hy0
        go_wp2_with fail
        exact ⟨⟨2, by omega, (by first | rfl | trivial), (by first | rfl | trivial), by simp, by simp⟩, by simp [intOf]⟩
      · have e1 : (y != 0) = true := by simp [hy0]
        clear hy0
        go_wp2_with fail
        go_ret
        exact ⟨by simp [orI], rfl⟩
    | 2, _ =>
      have hx0 : x = 0 := hx (by omega)
      have hy0 : y = 0 := hy (by omega)
      subst hx0 hy0
      clear hx hy
      go_wp2_with fail
      go_ret
      exact ⟨by simp [orI], rfl⟩
theorem grow3 (w : World) (a b c : Obj) : (((w.alloc a).alloc b).alloc c).drew = Sort.grow (w.drewN 1) #[a, b, c] := by
  rw [Sort.alloc_eq_grow, Sort.alloc_eq_grow, Sort.alloc_eq_grow, Sort.grow_grow, Sort.grow_grow]
  rfl
theorem grow_below (w : World) (q : Nat) (os : Array Obj) : Below w.heap.size w (Sort.grow (w.drewN q) os) := ⟨rfl, rfl, rfl, by simp [Sort.grow], fun k hk => by
  show (w.heap ++ os)[k]? = _
  rw [Array.getElem?_append_left hk]⟩
set_option maxRecDepth 100000 in
set_option maxHeartbeats 2000000 in
theorem order_g (A B : Array Value) (f1 t1 f2 t2 : Int) (a1 : A[21]? = some (I f1)) (a2 : A[22]? = some (I t1)) (b1 : B[21]? = some (I f2)) (b2 : B[22]? = some (I t2)) (w : World) :
    Calls Try.prog 23 #[.agg A, .agg B] w fun e w' => e = .returned (I (ordI f1 t1 f2 t2)) ∧ ∃ q os, w' = Sort.grow (w.drewN q) os := by
  obtain ⟨V, hV, hs, g0, g1, -⟩ := alloc2 w (.cells A 40) (.cells B 40)
  have c1 : V.cell? ⟨w.heap.size, 21, none⟩ = some (I f1) := (cell_of g0 _).trans a1
  have c2 : V.cell? ⟨w.heap.size, 22, none⟩ = some (I t1) := (cell_of g0 _).trans a2
  have c3 : V.cell? ⟨w.heap.size + 1, 21, none⟩ = some (I f2) := (cell_of g1 _).trans b1
  have c4 : V.cell? ⟨w.heap.size + 1, 22, none⟩ = some (I t2) := (cell_of g1 _).trans b2
  have HB := hide hV
  clear a1 a2 b1 b2 g0 g1 hs
  go_enter Try.func23, Try.ntmps23
  go_wp2_with fail
  go_region_held3 (fun W => W.cell? ⟨w.heap.size, 21, none⟩ = some (I f1) ∧ W.cell? ⟨w.heap.size, 22, none⟩ = some (I t1) ∧ W.cell? ⟨w.heap.size + 1, 21, none⟩ = some (I f2) ∧ W.cell? ⟨w.heap.size + 1, 22, none⟩ = some (I t2)) (go_keep)
    (first
      | (go_at_call 32; refine (cmp_any _ _ _).mono ?_; rintro e w1 ⟨rfl, rfl⟩)
      | (go_at_call 31; refine (or_any (ci f1 f2) (ci t1 t2) _ _ ?z0 ?z1).mono ?_; (case z0 => exact cell_of (heap_alloc_new V _) 0); (case z1 => exact cell_of (heap_alloc_new V _) 1); rintro e w1 ⟨rfl, rfl⟩))
  all_goals go_wp2_with fail
  all_goals go_ret
  all_goals exact ⟨rfl, 1, #[.cells A 40, .cells B 40, .cells #[I (ci f1 f2), I (ci t1 t2)] 3], by rw [← unhide HB]; exact grow3 w _ _ _⟩
theorem order_l (A B : Array Value) (f1 t1 f2 t2 : Int) (a1 : A[21]? = some (I f1)) (a2 : A[22]? = some (I t1)) (b1 : B[21]? = some (I f2)) (b2 : B[22]? = some (I t2)) (w : World) :
    Calls Try.prog 23 #[.agg A, .agg B] w fun e w' => e = .returned (I (ordI f1 t1 f2 t2)) ∧ Below w.heap.size w w' :=
  (order_g A B f1 t1 f2 t2 a1 a2 b1 b2 w).mono fun _ _ ⟨h1, q, os, h2⟩ => ⟨h1, h2 ▸ grow_below w q os⟩
def befP (f1 t1 f2 t2 : Int) : Bool := decide (0 ≤ t1) && decide (t1 < f2) && (ordI f1 t1 f2 t2 != 0)
def befR (t1 f2 : Int) : Bool := decide (0 ≤ t1) && decide (t1 < f2)
set_option maxRecDepth 100000 in
set_option maxHeartbeats 2000000 in
theorem before_l (A B : Array Value) (f1 t1 f2 t2 : Int) (sA : A.size = 23) (sB : B.size = 23) (a1 : A[21]? = some (I f1)) (a2 : A[22]? = some (I t1)) (b1 : B[21]? = some (I f2)) (b2 : B[22]? = some (I t2)) (w : World) :
    Calls Try.prog 10 #[.agg A, .agg B] w fun e w' => e = .returned (.bool (befP f1 t1 f2 t2)) ∧ Below w.heap.size w w' := by
  obtain ⟨V, hV, hs, g0, g1, hB⟩ := alloc2 w (.cells A 40) (.cells B 40)
  have c2 : V.cell? ⟨w.heap.size, 4 + 18, none⟩ = some (I t1) := (cell_of g0 _).trans a2
  have c3 : V.cell? ⟨w.heap.size + 1, 3 + 18, none⟩ = some (I f2) := (cell_of g1 _).trans b1
  simp only [Nat.reduceAdd] at c2 c3
  have HB := hide hB
  have HO := hide (order_l A B f1 t1 f2 t2 a1 a2 b1 b2 V)
  have i1 : (Try.prog.info? 40).map (·.size) = some A.size := by rw [sA]; kernel_rfl
  have i2 : (Try.prog.info? 40).map (·.size) = some B.size := by rw [sB]; kernel_rfl
  clear a1 a2 b1 b2 hB hs
  by_cases h1 : 0 ≤ t1
  · by_cases h2 : t1 < f2
    · have e : befP f1 t1 f2 t2 = (ordI f1 t1 f2 t2 != 0) := by simp [befP, h1, h2]
      rw [e]
      clear e
      obtain ⟨q, hq⟩ : ∃ q, ordI f1 t1 f2 t2 = q := ⟨_, rfl⟩
      rw [hq] at HO ⊢
      clear hq sA sB
      go_enter Try.func10, Try.ntmps10
      go_wp2_with (first | (refine wpList_load_rowW (by rfl) 40 (.tmp 2) rfl w.heap.size (by rfl) 40 A _ _ g0 Try.underlying40 rfl i1 ?_) | (refine wpList_load_rowW (by rfl) 40 (.tmp 3) rfl (w.heap.size + 1) (by rfl) 40 B _ _ g1 Try.underlying40 rfl i2 ?_) | (go_at_call 23; refine (unhide HO).mono ?_; rintro e w1 ⟨rfl, hB1⟩))
      go_ret
      exact ⟨rfl, (unhide HB).trans (hB1.mono (unhide HB).size)⟩
    · have e : befP f1 t1 f2 t2 = false := by simp [befP, h2]
      rw [e]
      clear e HO i1 i2 sA sB g0 g1
      go_enter Try.func10, Try.ntmps10
      go_wp2_with fail
      go_ret
      exact ⟨rfl, unhide HB⟩
  · have e : befP f1 t1 f2 t2 = false := by simp [befP, h1]
    rw [e]
    clear e HO i1 i2 sA sB g0 g1
    go_enter Try.func10, Try.ntmps10
    go_wp2_with fail
    go_ret
    exact ⟨rfl, unhide HB⟩
set_option maxRecDepth 100000 in
set_option maxHeartbeats 2000000 in
theorem rbefore_l (A B : Array Value) (t1 f2 : Int) (a2 : A[22]? = some (I t1)) (b1 : B[21]? = some (I f2)) (w : World) :
    Calls Try.prog 17 #[.agg A, .agg B] w fun e w' => e = .returned (.bool (befR t1 f2)) ∧ Below w.heap.size w w' := by
  obtain ⟨V, hV, hs, g0, g1, hB⟩ := alloc2 w (.cells A 49) (.cells B 49)
  have c2 : V.cell? ⟨w.heap.size, 22, none⟩ = some (I t1) := (cell_of g0 _).trans a2
  have c3 : V.cell? ⟨w.heap.size + 1, 21, none⟩ = some (I f2) := (cell_of g1 _).trans b1
  have HB := hide hB
  clear a2 b1 hB hs g0 g1
  by_cases h1 : 0 ≤ t1
  · by_cases h2 : t1 < f2
    · have e : befR t1 f2 = true := by simp [befR, h1, h2]
      rw [e]
      clear e
      go_enter Try.func17, Try.ntmps17
      go_wp2_with fail
      go_ret
      exact ⟨rfl, unhide HB⟩
    · have e : befR t1 f2 = false := by simp [befR, h2]
      rw [e]
      clear e
      go_enter Try.func17, Try.ntmps17
      go_wp2_with fail
      go_ret
      exact ⟨rfl, unhide HB⟩
  · have e : befR t1 f2 = false := by simp [befR, h1]
    rw [e]
    clear e
    go_enter Try.func17, Try.ntmps17
    go_wp2_with fail
    go_ret
    exact ⟨rfl, unhide HB⟩
end Go.Proofs.Ytlokihpegllddaa.Cl
