/-
  Lists in roomy memory: the contracts of Same, Roomy, Intact.
-/
import Derived.Test.YtcopjhidijhlaaaSSizes
import Derived.Laws.CopyRow
namespace Go.Proofs.Ytcopjhidijhlaaa.Cl
open Go.RowKit
attribute [local go_sem ↓] Go.wp_at_zero Go.wp_at_succ

theorem wpList_copyB {P : Program} {w : World} {ops : Array Oper} {rest : List Oper} {o : Oper} {a : Act} {Q : Exit → Act → World → Prop} (hgd : o.guard = none) (d s : Operand) (t t' : TypeId)
    (ho : o.op = .call { callee := .builtin .copy, args := #[d, s], argTypes := #[t, t'] }) (v u : Value) (hd : a.eval d = v) (hs : a.eval s = u) {v' : Value} {w' : World}
    (hr : (Builtin.copy_ #[t, t'] o.type #[v, u]).run P w = .ok v' w') (h : wpList P ops Q rest (a.put o.dst v') w') : wpList P ops Q (o :: rest) a w :=
  wpList_plain hgd fun _ hK => by
    unfold Oper.wp execOp
    simp only [ho, resolve, invoke, builtin, Sem.run_bind, Sem.run_pure, Result.andThen_ok, List.map_toArray, List.map_cons, List.map_nil, hd, hs, hr]
    exact hK _ _ h
/-- So many noughts; so many marks. -/
abbrev nz (n : Nat) : List UInt8 := List.replicate n 0
abbrev rm (n : Nat) : List UInt8 := List.replicate n 165
theorem set_mid {α : Type} (xs ys : List α) (y v : α) (k : Nat) (hk : k = xs.length) : (xs ++ y :: ys).set k v = xs ++ v :: ys := by
  subst hk
  simp
theorem bc_set (l : List UInt8) (k : Nat) (c : UInt8) : bc (l.set k c) = (bc l).set k (.int .u8 c.toNat) := by
  simp [Lib.byteCells, List.map_set]
theorem rm_set (l : List UInt8) (k m : Nat) : (l ++ rm k ++ nz (m + 1)).set (l.length + k) 165 = l ++ rm (k + 1) ++ nz m := by
  have e : nz (m + 1) = 0 :: nz m := rfl
  rw [e, set_mid _ _ _ _ _ (by simp)]
  simp [rm, List.replicate_succ', List.append_assoc]
theorem make_w (n : Nat) (hn : n ≤ 281474976710656) (w : World) : (Instr.makeSlice 22 (.int .i64 (n : Int)) (.int .i64 (n : Int))).run Try.prog w = .ok (.slice (some ⟨w.heap.size, 0, none⟩) n n) (w.alloc (.cells (bc (nz n)).toArray 5)) := by
  have hi := info5
  obtain ⟨i, hi, hz0, hz1, hz2⟩ : ∃ i, Try.prog.info? 5 = some i ∧ i.zero = some (.int .u8 0) ∧ i.size = 1 ∧ i.bytes = 1 := by
    cases h5 : Try.prog.info? 5 with
    | none => rw [h5] at hi; simp at hi
    | some i => rw [h5] at hi; simp at hi; exact ⟨i, rfl, hi.1, hi.2.1, hi.2.2⟩
  have h := run_make_row (P := Try.prog) 22 5 i (.int .u8 0) Try.underlying22 hi hz0 hz1 rfl .i64 .i64 n (by rw [hz2]; omega) (by omega) w
  rw [h]
  have e : madeCells #[Value.int .u8 0] n = (bc (nz n)).toArray := by
    apply Array.ext
    · simp [madeCells, Lib.byteCells]
    · intro j h1 h2
      simp [madeCells, Lib.byteCells, Nat.mod_one]
  rw [e]
theorem By.cell {W : World} {B : Nat} {a : Option Addr} {l : List UInt8} (h : By W B a l) {k : Nat} (hk : k < l.length) : ∃ b off, a = some ⟨b, off, none⟩ ∧ W.cell? ⟨b, off + k, none⟩ = some (.int .u8 (l[k]'hk).toNat) := by
  obtain ⟨b, off, h1, -, h3⟩ := h k _ (List.getElem?_eq_getElem hk)
  exact ⟨b, off, h1, h3⟩
theorem By.row {W : World} {g B : Nat} {l : List UInt8} {f : Nat × Nat} (h : W.heap[g]? = some (.cells (bc l).toArray 5 f)) (hg : g < B) : By W B (some ⟨g, 0, none⟩) l := fun k c hk => ⟨g, 0, rfl, hg, by
  rw [cell_of h, Nat.zero_add, List.getElem?_toArray, bc_get hk]⟩
theorem size5 : (Try.prog.info? 5).map (·.size) = some 1 := by kernel_rfl
/-- A copy of bytes to the front of a row of noughts. -/
theorem copy_run (a : Option Addr) (l : List UInt8) (c g z : Nat) (hz : z = l.length + 80) (W : World) (hg : W.heap[g]? = some (.cells (bc (nz z)).toArray 5)) (hb : By W W.heap.size a l) :
    ∃ W', (∀ ty, (Builtin.copy_ #[22, 22] ty #[.slice (some ⟨g, 0, none⟩) z z, .slice a l.length c]).run Try.prog W = .ok (I (l.length : Nat)) W') ∧ W'.heap[g]? = some (.cells (bc (l ++ rm 0 ++ nz 80)).toArray 5) ∧ Gr g W W' := by
  subst hz
  cases l with
  | nil =>
    refine ⟨W, fun ty => ?_, ?_, Gr.refl _ _⟩
    · have hi := size5
      cases hq : Try.prog.info? 5 with
      | none => rw [hq] at hi; simp at hi
      | some i => cases a <;> simp [Builtin.copy_, run_underlying Try.underlying22, Builtin.lenOf, Builtin.firstCells, sizeOf, typeInfo, hq, storeCells, loadCells, loadCellsFrom] <;> rfl
    · simpa [rm] using hg
  | cons x m =>
    obtain ⟨sb, so, rfl, -, -⟩ := hb 0 x rfl
    have hnews : ∀ j u, (bc (x :: m))[j]? = some u → W.cell? ((⟨sb, so, none⟩ : Addr).add j) = some u := by
      intro j u hj
      have hj1 := (List.getElem?_eq_some_iff.1 hj).1
      rw [bc_len] at hj1
      obtain ⟨b', o', e1, -, h3⟩ := hb j _ (List.getElem?_eq_getElem hj1)
      simp at e1
      obtain ⟨rfl, rfl⟩ := e1
      rw [addAt, h3, ← hj]
      rw [bc_get (List.getElem?_eq_getElem hj1)]
    generalize x :: m = l at *
    have hmin : (bc l).length = Nat.min l.length (l.length + 80) := by rw [bc_len]; exact (Nat.min_eq_left (by omega)).symm
    refine ⟨W.setRow g ((bc (nz (l.length + 80))).toArray.toList.take 0 ++ bc l ++ (bc (nz (l.length + 80))).toArray.toList.drop (0 + (bc l).length)).toArray, fun ty => (run_copy_row (P := Try.prog) W 22 22 ty 5 g 0 (l.length + 80) (l.length + 80) ⟨sb, so, none⟩ l.length c _ 5 (bc l) Try.underlying22 size5 hg hmin hnews (by simp [bc_len]) (bc_one l)).trans (by rw [bc_len]; rfl), ?_, ⟨rfl, rfl, rfl, by simp, fun k _ hk => setRow_other W g k _ (fun e => hk (by rw [e]))⟩⟩
    rw [setRow_heap W g _ _ 5 _ hg]
    congr 3
    simp [rm, bc_app, bc_len]
    simp [Lib.byteCells]
set_option maxRecDepth 100000 in
set_option maxHeartbeats 1000000 in
theorem bsame_any (l : List UInt8) (a1 a2 : Option Addr) (n c1 c2 : Nat) (hn : n = l.length) (hl : n ≤ 200000000000080) (W : World) (h1 : By W W.heap.size a1 l) (h2 : By W W.heap.size a2 l) :
    Calls Try.prog 27 #[.slice a1 n c1, .slice a2 n c2] W fun e w' => e = .returned (.bool true) ∧ Below W.heap.size W w' := by
  have H1 := hide h1
  have H2 := hide h2
  have n1 : (n : Int) ≤ 200000000000080 := by omega
  replace hn := hide hn
  clear h1 h2 hl
  go_enter Try.func27, Try.ntmps27
  go_wp2_with fail
  go_loopw [5] (fun i wr => ∃ j : Nat, j ≤ n ∧ i = I (j : Int) ∧ Hid (Below W.heap.size W wr)) (fun i _ => n - (intOf i).toNat)
  case atStart => exact ⟨0, by omega, rfl, hide (Below.refl _ _)⟩
  case round =>
    obtain ⟨j, hj, rfl, hB⟩ := hrel
    by_cases hjn : j < n
    · have hjl : j < l.length := by rw [← unhide hn]; exact hjn
      obtain ⟨sb, so, rfl, d1⟩ := ((unhide H1).below (unhide hB)).cell hjl
      obtain ⟨tb, t0, rfl, d2⟩ := ((unhide H2).below (unhide hB)).cell hjl
      have z1 : (j : Int) < (n : Int) := by omega
      have z0 : (0 : Int) ≤ (j : Int) := by omega
      generalize ((l[j]'hjl).toNat : Int) = y at *
      clear hjl
      go_wp2_with fail
      go_quiet (fail)
      go_wp2_with fail
      refine ⟨⟨j + 1, by omega, rfl, hide (below_dn (unhide hB) _)⟩, by simp [intOf]; omega⟩
    · obtain rfl : j = n := by omega
      have z1 : ¬ (j : Int) < (j : Int) := by omega
      go_wp2_with fail
      go_ret
      exact ⟨rfl, unhide hB⟩
set_option maxRecDepth 100000 in
set_option maxHeartbeats 1000000 in
theorem roomy_any (a : Option Addr) (l : List UInt8) (n c : Nat) (hn : n = l.length) (hl : n ≤ 200000000000000) (W : World) (hb : By W W.heap.size a l) :
    Calls Try.prog 15 #[.slice a n c, .int .u8 165] W fun e w' => (∃ g, e = .returned (.slice (some ⟨g, 0, none⟩) (n + 80) (n + 80)) ∧ By w' w'.heap.size (some ⟨g, 0, none⟩) (l ++ rm 80)) ∧ Below W.heap.size W w' := by
  obtain ⟨z, hz⟩ : ∃ z, z = l.length + 80 := ⟨_, rfl⟩
  have hmk := make_w z (by omega)
  have hzn : z = n + 80 := by omega
  rw [show (z : Int) = (n : Int) + 80 by omega] at hmk
  obtain ⟨w11, hw11, hs11, g11, k11⟩ := alloc1 W (.cells (bc (nz z)).toArray 5)
  obtain ⟨w12, hcp, g12, k12⟩ := copy_run a l c W.heap.size z hz w11 g11 ((hb.below k11).mono (by omega))
  rw [← hw11] at hcp
  have K12 : Below W.heap.size W w12 := k11.trans (k12.below (Nat.le_refl _) (by omega))
  rw [← hn] at hcp
  have z1 : (z : Int) = (n : Int) + 80 := by omega
  have z2 : (z : Int) ≤ 200000000000080 := by omega
  have m1 : (n : Int) ≤ 200000000000000 := by omega
  rw [show n + 80 = z by omega]
  have HG := hide g12
  have HK := hide K12
  have HZ := hide (⟨hz, hzn, hn, z1⟩ : _ ∧ _ ∧ _ ∧ _)
  clear hw11 g11 k11 g12 K12 hb z1 hz hs11 k12 hzn hn
  go_enter Try.func15, Try.ntmps15
  go_wp2_with (at_builtin; refine wpList_copyB rfl _ _ 22 22 rfl _ _ rfl rfl (hcp _) ?_)
  go_loopw [6] (fun i wr => ∃ k m : Nat, k + m = 80 ∧ i = I ((n + k : Nat) : Int) ∧ Hid (wr.heap[W.heap.size]? = some (.cells (bc (l ++ rm k ++ nz m)).toArray 5)) ∧ Hid (Below W.heap.size W wr)) (fun i _ => z - (intOf i).toNat)
  case atStart => exact ⟨0, 80, rfl, rfl, HG, HK⟩
  case round =>
    obtain ⟨k, m, hk, rfl, hG, hB⟩ := hrel
    obtain ⟨e1, e2, e3, -⟩ := unhide HZ
    cases m with
    | succ m =>
      have d0 : ∃ y : Value, wr.cell? ⟨W.heap.size, n + k, none⟩ = some y := by
        rw [cell_of (unhide hG), List.getElem?_toArray]
        exact ⟨_, List.getElem?_eq_getElem (by rw [bc_len]; simp; omega)⟩
      obtain ⟨y, d0⟩ := d0
      have df := frozen_of (unhide hG) (n + k)
      have hset : wr.setCell ⟨W.heap.size, n + k, none⟩ (.int .u8 165) = wr.setCell ⟨W.heap.size, n + k, none⟩ (.int .u8 165) := rfl
      obtain ⟨j, hj⟩ : ∃ j, j = n + k := ⟨_, rfl⟩
      rw [← hj] at d0 df ⊢
      have z3 : (j : Int) < (z : Int) := by omega
      have z0 : (0 : Int) ≤ (j : Int) := by omega
      have HJ := hide hj
      clear hj e1 e2 e3 hset
      go_wp2_with fail
      have hj := unhide HJ
      refine ⟨⟨k + 1, m, by omega, by rw [hj]; rfl, hide ?_, hide ((unhide hB).setCell (Nat.le_refl _) _)⟩, by simp [intOf]; omega⟩
      rw [heap_set (unhide hG)]
      have e := rm_set l k m
      rw [List.setIfInBounds_toArray, ← e, bc_set, hj, (unhide HZ).2.2.1]
      rfl
    | zero =>
      obtain rfl : k = 80 := by omega
      obtain ⟨j, hj⟩ : ∃ j, j = n + 80 := ⟨_, rfl⟩
      rw [← hj]
      have z3 : ¬ (j : Int) < (z : Int) := by omega
      have HJ := hide hj
      clear hj e1 e2 e3
      go_wp2_with fail
      go_ret
      refine ⟨⟨_, rfl, ?_⟩, unhide hB⟩
      exact By.row (by simpa [nz] using unhide hG) (lt_of_heap (unhide hG))
set_option maxRecDepth 100000 in
set_option maxHeartbeats 1000000 in
theorem intact_any (a : Option Addr) (l : List UInt8) (n c g z : Nat) (hn : n = l.length) (hz : z = n + 80) (hl : n ≤ 200000000000000) (W : World) (hb : By W W.heap.size a l) (hg : By W W.heap.size (some ⟨g, 0, none⟩) (l ++ rm 80)) :
    Calls Try.prog 18 #[.slice (some ⟨g, 0, none⟩) z z, .slice a n c, .int .u8 165] W fun e w' => e = .returned (.bool true) ∧ Below W.heap.size W w' := by
  have e1 : ((z : Int) != (n : Int) + 80) = false := by simp; omega
  have z2 : (z : Int) ≤ 200000000000080 := by omega
  have m1 : (n : Int) ≤ 200000000000000 := by omega
  have m2 : (n : Int) ≤ (z : Int) := by omega
  have m3 : n ≤ z := by omega
  have m0 : (0 : Int) ≤ (n : Int) := by omega
  have hgl : By W W.heap.size (some ⟨g, 0, none⟩) l := by
    have h := hg.take n
    rw [hn, List.take_left] at h
    exact h
  have HS := hide (bsame_any l (some ⟨g, 0, none⟩) a n z c hn (by omega) W hgl hb)
  have HG := hide hg
  have HZ := hide (⟨hz, hn⟩ : _ ∧ _)
  clear hb hg hgl hn hz
  go_enter Try.func18, Try.ntmps18
  go_wp2_with fail
  refine (unhide HS).mono ?_
  rintro e w1 ⟨rfl, K1⟩
  replace K1 := hide K1
  clear HS
  go_wp2_with fail
  go_loopw [7] (fun i wr => ∃ j : Nat, n ≤ j ∧ j ≤ z ∧ i = I (j : Int) ∧ wr = w1) (fun i _ => z - (intOf i).toNat)
  case atStart => exact ⟨n, by omega, by omega, rfl, rfl⟩
  case round =>
    obtain ⟨j, hj1, hj2, rfl, rfl⟩ := hrel
    by_cases hjz : j < z
    · have z3 : (j : Int) < (z : Int) := by omega
      have z0 : (0 : Int) ≤ (j : Int) := by omega
      have d0 : wr.cell? ⟨g, j, none⟩ = some (.int .u8 165) := by
        obtain ⟨q1, q2⟩ := unhide HZ
        obtain ⟨b, off, q3, -, q4⟩ := ((unhide HG).below (unhide K1)) j 165 (by
          rw [List.getElem?_append_right (by omega), List.getElem?_replicate]
          simp
          omega)
        simp at q3
        obtain ⟨rfl, rfl⟩ := q3
        simpa using q4
      go_wp2_with fail
      refine ⟨⟨j + 1, by omega, by omega, rfl, trivial⟩, by simp [intOf]; omega⟩
    · obtain rfl : j = z := by omega
      have z3 : ¬ (j : Int) < (j : Int) := by omega
      go_wp2_with fail
      go_ret
      exact ⟨rfl, unhide K1⟩
end Go.Proofs.Ytcopjhidijhlaaa.Cl
