/-
  The contracts of size and Stat.
-/
import Derived.Test.YtlngeaacjbdmhaaLinks
import Derived.Test.YtlngeaacjbdmhaaAdd
import Derived.Laws.ResultCell
namespace Go.Proofs.Ytlngeaacjbdmhaa
open Go.RowKit Go.Maps

def Tr.statV (T : Tr) (n : Int) (x : Nd) : Value := .agg #[I n, I x.kind, I x.mode, I x.uid, I x.gid, I (T.links x : Nat), I (T.size x : Nat)]
def stat0 : Value := .agg #[I 0, I 0, I 0, I 0, I 0, I 0, I 0]
def Tr.stat (T : Tr) (n : Int) : Value := match T.nd n with | some x => T.statV n x | none => stat0
section
variable {lo N : Nat} {W W' : World} {t : Nat} {T : Tr} {q p : Nat} {nb : Int → Nat} {ev : Int → Value} {B : Nat}
theorem Pl.get_some {base : Bse} {n : Nat} {W : World} {p : Nat} {s : S} (h : Pl base n W p s) : base.inn W := let ⟨_, _, _, h⟩ := h; h.bs
set_option maxHeartbeats 1000000 in
theorem tsize_any (h : TrI lo N W t T q p nb ev) (hw : Wk B T) (hB : B ≤ 900) {n : Int} {x : Nd} (hx : T.nd n = some x) :
    Calls Try.prog 37 #[P0 t, P0 (nb n)] W fun e w' => e = .returned (I (T.size x : Nat)) ∧ ∃ k, w' = W.drewN k := by
  obtain ⟨c0, c1, c2, c3, cf⟩ := h.cells
  obtain ⟨d0, -, -, -, -, -, -, d7, d8, d9, df⟩ := ndcells (h.hn n x hx).1
  obtain ⟨k1, k2⟩ := hw.knd n x hx
  have hfw : (kl x.file).wf = true := wf_of (by have := hw.fil n x hx; omega)
  unfold Tr.size
  by_cases hk2 : x.kind = 2
  · rw [hk2] at d0
    rw [if_pos hk2]
    have H : Hid (∀ j, Calls Try.prog 51 #[P0 p, I x.file] (W.drewN j) fun e w' => e = .returned (I (sizeO (T.pool.get x.file))) ∧ w' = W.drewN j) := fun j => size_any (h.pl.below (below_n W j)) hfw
    clear h hw hx d7 d9
    go_enter Try.func37, Try.ntmps37
    go_wp2_with fail
    go_quiet (first | (go_at_call 51; exact Calls.quiet_of_same (unhide H _)))
    go_wp2_with fail
    go_ret
    exact ⟨rfl, _, rfl⟩
  · rw [if_neg hk2]
    by_cases hk3 : x.kind = 3
    · rw [hk3] at d0
      rw [if_pos hk3]
      have ht := hw.txt n x hx
      clear h hw hx d7
      go_enter Try.func37, Try.ntmps37
      go_wp2_with fail
      go_ret
      exact ⟨rfl, 0, rfl⟩
    · rw [if_neg hk3]
      have hk1 : x.kind = 1 := by omega
      rw [hk1] at d0
      obtain ⟨a, cap, hv⟩ := own_form (h.hn n x hx).2
      rw [hv] at d7
      clear h hw hx hk2 hk3 hk1 hv
      go_enter Try.func37, Try.ntmps37
      go_wp2_with fail
      go_ret
      exact ⟨rfl, 0, rfl⟩
set_option maxRecDepth 100000 in
set_option maxHeartbeats 1000000 in
theorem stat_some (h : TrI lo N W t T q p nb ev) (hw : Wk B T) (hB : B ≤ 900) {n : Int} {x : Nd} (hx : T.nd n = some x) :
    Calls Try.prog 16 #[P0 t, I n] W fun e w' => e = .returned (.tuple #[T.statV n x, .bool true]) ∧ Below W.heap.size W w' := by
  obtain ⟨c0, c1, c2, c3, cf⟩ := h.cells
  have hl := fun o => (h.below ((Below.refl _ W).alloc (Nat.le_refl _) o)).look_ok (hw.wf hB hx)
  rw [hx] at hl
  simp only [Option.isSome_some, if_true] at hl
  have htl := lt_of_heap h.ht
  have hb := (h.hn n x hx).1
  obtain ⟨d0, d1, d2, d3, -, -, -, -, -, -, df⟩ := ndcells hb
  have HL : Hid (∀ w', Below W.heap.size W w' → Calls Try.prog 28 #[P0 t, P0 (nb n)] w' fun e w2 => e = .returned (I (T.links x : Nat)) ∧ Below w'.heap.size w' w2) := fun w' hB' => links_any (h.below hB') hw hB hx
  have HS : Hid (∀ w', Below W.heap.size W w' → Calls Try.prog 37 #[P0 t, P0 (nb n)] w' fun e w2 => e = .returned (I (T.size x : Nat)) ∧ ∃ k, w2 = w'.drewN k) := fun w' hB' => tsize_any (h.below hB') hw hB hx
  have HD : Hid (∀ w', Below W.heap.size W w' → w'.cell? ⟨nb n, 0, none⟩ = some (I x.kind) ∧ w'.cell? ⟨nb n, 1, none⟩ = some (I x.mode) ∧ w'.cell? ⟨nb n, 2, none⟩ = some (I x.uid) ∧ w'.cell? ⟨nb n, 3, none⟩ = some (I x.gid)) := fun w' hB' => by
    obtain ⟨e0, e1, e2, e3, -⟩ := ndcells ((hB'.block _ (lt_of_heap hb)).trans hb)
    exact ⟨e0, e1, e2, e3⟩
  have hB0 := hide (Below.refl W.heap.size W)
  unfold Tr.statV
  obtain ⟨L, hL⟩ : ∃ L : Int, L = ((T.links x : Nat) : Int) := ⟨_, rfl⟩
  obtain ⟨Z, hZ⟩ : ∃ Z : Int, Z = ((T.size x : Nat) : Int) := ⟨_, rfl⟩
  rw [← hL] at HL ⊢
  rw [← hZ] at HS ⊢
  obtain ⟨b, hb'⟩ : ∃ b, b = nb n := ⟨_, rfl⟩
  have hbl := lt_of_heap hb
  rw [← hb'] at hl d0 d1 d2 d3 df HL HS HD hbl
  clear h hw hx hb hL hZ hb' c0 c1 c3
  go_enter Try.func16, Try.ntmps16
  go_wp2_with fail
  obtain ⟨W0, hW0⟩ : ∃ W0, W0 = W.alloc (Obj.cells #[Value.int IntKind.i64 0, Value.int IntKind.i64 0, Value.int IntKind.i64 0, Value.int IntKind.i64 0, Value.int IntKind.i64 0, Value.int IntKind.i64 0, Value.int IntKind.i64 0] 29) := ⟨_, rfl⟩
  have hB1 : Below W.heap.size W W0 := by rw [hW0]; exact (Below.refl _ W).alloc (Nat.le_refl _) _
  have hR : W0.heap[W.heap.size]? = some (.cells #[Value.int IntKind.i64 0, Value.int IntKind.i64 0, Value.int IntKind.i64 0, Value.int IntKind.i64 0, Value.int IntKind.i64 0, Value.int IntKind.i64 0, Value.int IntKind.i64 0] 29) := by rw [hW0]; exact heap_alloc_new W _
  have hRl := lt_of_heap hR
  rw [← hW0]
  clear hW0 hl d0 d1 d2 d3 df cf c2
  obtain ⟨e0, e1, e2, e3⟩ := unhide HD W0 hB1
  have HB1 := hide hB1
  have HR := hide hR
  generalize hRR : W.heap.size = R at *
  have HRR := hide hRR
  clear hRR
  have HLL : Hid (Calls Try.prog 28 #[P0 t, P0 b] W0.drew fun e w2 => e = .returned (I L) ∧ Hid (Below R W w2) ∧ w2.heap[R]? = some (.cells #[Value.int IntKind.i64 0, Value.int IntKind.i64 0, Value.int IntKind.i64 0, Value.int IntKind.i64 0, Value.int IntKind.i64 0, Value.int IntKind.i64 0, Value.int IntKind.i64 0] 29)) := by
    refine (unhide HL W0.drew (below_drew hB1)).mono ?_
    rintro e w2 ⟨h1, h2⟩
    exact ⟨h1, (below_drew hB1).trans (h2.mono (Nat.le_of_lt hRl)), (h2.block R hRl).trans hR⟩
  have hne : b ≠ R := by omega
  have hne2 : R ≠ b := by omega
  clear hB1 hR HL
  go_region_held3 (fun w' => w'.cell? ⟨b, 0, none⟩ = some (I x.kind) ∧ w'.cell? ⟨b, 1, none⟩ = some (I x.mode) ∧ w'.cell? ⟨b, 2, none⟩ = some (I x.uid) ∧ w'.cell? ⟨b, 3, none⟩ = some (I x.gid)) (go_keep)
    (first
      | (go_at_call 28; refine (unhide HLL).mono ?_; rintro e w2 ⟨rfl, HB2, hR2⟩; obtain ⟨f0, f1, f2, f3⟩ := unhide HD w2 (unhide HB2); obtain ⟨r0, r1, r2, r3, r4, r5, r6, rf⟩ := cells7 hR2; have HR2 := hide hR2; clear hR2)
      | (go_at_call 37; refine (unhide HS _ (unhide HB2)).mono ?_; rintro e w3 ⟨rfl, k3, rfl⟩))
  obtain ⟨X, hX⟩ : ∃ X, X = ((((((((w2.drewN k3).setCell ⟨R, 0, none⟩ (.int .i64 n)).setCell ⟨R, 1, none⟩ (.int .i64 x.kind)).setCell ⟨R, 2, none⟩ (.int .i64 x.mode)).setCell ⟨R, 3, none⟩ (.int .i64 x.uid)).setCell ⟨R, 4, none⟩ (.int .i64 x.gid)).setCell ⟨R, 5, none⟩ (.int .i64 L)).setCell ⟨R, 6, none⟩ (.int .i64 Z)) := ⟨_, rfl⟩
  have hXR : X.heap[R]? = some (.cells #[I n, I x.kind, I x.mode, I x.uid, I x.gid, I L, I Z] 29) := by
    rw [hX, heap_set (heap_set (heap_set (heap_set (heap_set (heap_set (heap_set (W := w2.drewN k3) (unhide HR2) 0 _) 1 _) 2 _) 3 _) 4 _) 5 _) 6 _]
    rfl
  have hXB : Below R W X := by
    rw [hX]
    exact ((((((((below_dn (unhide HB2) k3).setCell (p := ⟨R, 0, none⟩) (Nat.le_refl _) _).setCell (p := ⟨R, 1, none⟩) (Nat.le_refl _) _).setCell (p := ⟨R, 2, none⟩) (Nat.le_refl _) _).setCell (p := ⟨R, 3, none⟩) (Nat.le_refl _) _).setCell (p := ⟨R, 4, none⟩) (Nat.le_refl _) _).setCell (p := ⟨R, 5, none⟩) (Nat.le_refl _) _).setCell (p := ⟨R, 6, none⟩) (Nat.le_refl _) _)
  rw [← hX]
  clear hX
  obtain ⟨x0, x1, x2, x3, x4, x5, x6, xf⟩ := cells7 hXR
  go_wp2_with fail
  refine bodyPost_ret (v := .tuple #[.agg #[I n, I x.kind, I x.mode, I x.uid, I x.gid, I L, I Z], .bool true]) ?_ rfl ?_
  · rw [results_cell_tmp rfl]
    go_simp
  · exact ⟨rfl, by rw [unhide HRR]; exact hXB⟩
set_option maxHeartbeats 1000000 in
theorem stat_none (h : TrI lo N W t T q p nb ev) {n : Int} (hn : (kl n).wf = true) (hx : T.nd n = none) :
    Calls Try.prog 16 #[P0 t, I n] W fun e w' => e = .returned (.tuple #[stat0, .bool false]) ∧ Below W.heap.size W w' := by
  obtain ⟨c0, c1, c2, c3, cf⟩ := h.cells
  have hl := fun o => (h.below ((Below.refl _ W).alloc (Nat.le_refl _) o)).look_ok hn
  rw [hx] at hl
  simp only [Option.isSome_none, Bool.false_eq_true, if_false] at hl
  have htl := lt_of_heap h.ht
  clear h hx c0 c1 c3
  go_enter Try.func16, Try.ntmps16
  go_wp2_with fail
  obtain ⟨X, hX⟩ : ∃ X, X = W.alloc (Obj.cells #[Value.int IntKind.i64 0, Value.int IntKind.i64 0, Value.int IntKind.i64 0, Value.int IntKind.i64 0, Value.int IntKind.i64 0, Value.int IntKind.i64 0, Value.int IntKind.i64 0] 29) := ⟨_, rfl⟩
  have hXR : X.heap[W.heap.size]? = some (.cells #[Value.int IntKind.i64 0, Value.int IntKind.i64 0, Value.int IntKind.i64 0, Value.int IntKind.i64 0, Value.int IntKind.i64 0, Value.int IntKind.i64 0, Value.int IntKind.i64 0] 29) := by rw [hX]; exact heap_alloc_new W _
  have hXB : Below W.heap.size W X := by rw [hX]; exact (Below.refl _ W).alloc (Nat.le_refl _) _
  rw [← hX]
  clear hX hl
  obtain ⟨x0, x1, x2, x3, x4, x5, x6, xf⟩ := cells7 hXR
  refine bodyPost_ret (v := .tuple #[stat0, .bool false]) ?_ rfl ⟨rfl, hXB⟩
  rw [results_cell_tmp rfl]
  go_simp
  rfl
theorem stat_any (h : TrI lo N W t T q p nb ev) (hw : Wk B T) (hB : B ≤ 900) {n : Int} (hn : (kl n).wf = true) :
    Calls Try.prog 16 #[P0 t, I n] W fun e w' => e = .returned (.tuple #[T.stat n, .bool (T.nd n).isSome]) ∧ Below W.heap.size W w' := by
  unfold Tr.stat
  cases hx : T.nd n with
  | none => exact stat_none h hn hx
  | some x => exact stat_some h hw hB hx
end
end Go.Proofs.Ytlngeaacjbdmhaa
