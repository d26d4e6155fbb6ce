/-
  The contracts of New, Load, Store, Swap, Steps and Words, over a memory that lies in two blocks.
-/
import Derived.Test.YtkgeapmafpeapaaAccess
import Derived.Deep.OwnRows
import Derived.Laws.CopyOwn
namespace Go.Proofs.Ytkgeapmafpeapaa
open Go.RowKit

theorem hide {p : Prop} (h : p) : Hid p := h
theorem unhide {p : Prop} (h : Hid p) : p := h

theorem info2 : (Try.prog.info? 2).map (fun i => (i.zero, i.size, i.bytes)) = some (some (.int .i64 0), 1, 8) := by kernel_rfl

theorem made_zero (n : Nat) : madeCells #[.int .i64 0] n = ((List.replicate n (0 : Int)).map (Value.int .i64)).toArray := by
  apply Array.ext
  · simp [madeCells]
  · intro i h1 h2
    simp [madeCells, Nat.mod_one]

set_option maxHeartbeats 400000 in
theorem new_yes (n : Nat) (h1 : 1 ≤ n) (h2 : n ≤ 64) (w : World) :
    Calls Try.prog 10 #[.int .i64 (n : Int)] w fun e w' => e = .returned (.tuple #[.pointer (some ⟨w.heap.size + 1, 0, none⟩), .int .i64 0]) ∧
      Mem w' (w.heap.size + 1) w.heap.size n (List.replicate n 0) 0 0 0 0 0 false ∧ Below w.heap.size w w' := by
  have hmk := fun w => run_make_row' (P := Try.prog) 55 2 (.int .i64 0) 8 Try.underlying55 info2 rfl .i64 .i64 n (by omega) (by omega) w
  have q1 : ¬ (n : Int) < 1 := by omega
  have q2 : ¬ (64 : Int) < (n : Int) := by omega
  have q3 : (1 : Int) ≤ (n : Int) := by omega
  have q4 : (n : Int) ≤ 64 := by omega
  go_enter Try.func10, Try.ntmps10
  go_wp2
  go_ret2
  refine ⟨rfl, ⟨?_, ?_, by omega, by simp, by omega, h2⟩, ((Below.refl _ _).alloc (Nat.le_refl _) _).alloc (by simp) _⟩
  · exact putAll _ _ (by simp)
  · rw [Below.heap_alloc _ _ _ (by simp), ← made_zero]
    exact putAll _ _ rfl

set_option maxHeartbeats 400000 in
theorem steps_any (b c n : Nat) (ws : List Int) (st k a o v : Int) (d : Bool) (w : World) (hM : Mem w b c n ws st k a o v d) :
    Calls Try.prog 22 #[.pointer (some ⟨b, 0, none⟩)] w fun e w' => e = .returned (.int .i64 st) ∧ w' = w := by
  obtain ⟨h0, h1, h2, h3, h4, h5, h6, hf⟩ := hM.cells
  go_enter Try.func22, Try.ntmps22
  go_wp2
  go_ret
  exact ⟨rfl, rfl⟩

/-- access, as a plain contract. -/
theorem access_yes (b c n a : Nat) (ws : List Int) (st k0 a0 o0 v0 : Int) (d0 : Bool) (k old new : Int) (d : Bool) (w : World)
    (hk : k = 1 ∨ k = 2 ∨ k = 3) (hM : Mem w b c n ws st k0 a0 o0 v0 d0) (ha : a < n) (s0 : 0 ≤ st) (s1 : st ≤ 1000000) :
    Calls Try.prog 33 #[.pointer (some ⟨b, 0, none⟩), .agg #[.int .i64 k, .int .i64 (a : Int), .int .i64 old, .int .i64 new, .bool d]] w fun e w' =>
      e = .returned (.tuple #[.agg #[.int .i64 k, .int .i64 (a : Int), .int .i64 (ws.getD a 0), .int .i64 (nwOf k old new (ws.getD a 0)), .bool (dnOf k old (ws.getD a 0))], .int .i64 0]) ∧
      Mem w' b c n (ws.set a (nwOf k old new (ws.getD a 0))) (st + 1) k a (ws.getD a 0) (nwOf k old new (ws.getD a 0)) (dnOf k old (ws.getD a 0)) ∧ Frm b c w w' :=
  callsIn_wide.1 (access_yes_in b c n a ws st k0 a0 o0 v0 d0 k old new d w hk hM ha s0 s1)
theorem set_self (ws : List Int) (a : Nat) : ws.set a (ws.getD a 0) = ws := by
  apply List.ext_getElem
  · simp
  · intro i h1 h2
    rw [List.getElem_set]
    split
    · subst_vars; simp [List.getD_eq_getElem?_getD, h2]
    · rfl

set_option maxHeartbeats 400000 in
theorem store_yes (b c n a : Nat) (ws : List Int) (st k0 a0 o0 v0 : Int) (d0 : Bool) (v : Int) (w : World) (hM : Mem w b c n ws st k0 a0 o0 v0 d0) (ha : a < n) (s0 : 0 ≤ st) (s1 : st ≤ 1000000) :
    Calls Try.prog 26 #[.pointer (some ⟨b, 0, none⟩), .int .i64 (a : Int), .int .i64 v] w fun e w' => e = .returned (.int .i64 0) ∧
      Mem w' b c n (ws.set a v) (st + 1) 2 a (ws.getD a 0) v true ∧ Frm b c w w' := by
  go_enter Try.func26, Try.ntmps26
  go_wp2_with fail
  refine (access_yes b c n a ws st k0 a0 o0 v0 d0 2 0 v false _ (by omega) hM ha s0 s1).mono ?_
  rintro e w' ⟨rfl, hM1, hF⟩
  have e1 : ∀ x, nwOf 2 0 v x = v := fun x => rfl
  have e2 : ∀ x, dnOf 2 0 x = true := fun x => rfl
  rw [e1, e2] at *
  clear e1 e2
  go_wp2
  go_ret
  exact ⟨rfl, hM1.alloc _, hF.alloc _⟩

set_option maxHeartbeats 400000 in
theorem load_yes (b c n a : Nat) (ws : List Int) (st k0 a0 o0 v0 : Int) (d0 : Bool) (w : World) (hM : Mem w b c n ws st k0 a0 o0 v0 d0) (ha : a < n) (s0 : 0 ≤ st) (s1 : st ≤ 1000000) :
    Calls Try.prog 53 #[.pointer (some ⟨b, 0, none⟩), .int .i64 (a : Int)] w fun e w' => e = .returned (.tuple #[.int .i64 (ws.getD a 0), .int .i64 0]) ∧
      Mem w' b c n ws (st + 1) 1 a (ws.getD a 0) (ws.getD a 0) true ∧ Frm b c w w' := by
  go_enter Try.func53, Try.ntmps53
  go_wp2_with fail
  refine (access_yes b c n a ws st k0 a0 o0 v0 d0 1 0 0 false _ (by omega) hM ha s0 s1).mono ?_
  rintro e w' ⟨rfl, hM1, hF⟩
  have e1 : ∀ x, nwOf 1 0 0 x = x := fun x => rfl
  have e2 : ∀ x, dnOf 1 0 x = true := fun x => rfl
  rw [e1, e2, set_self] at hM1
  rw [e1, e2]
  clear e1 e2
  go_wp2
  go_ret2
  exact ⟨rfl, hM1.alloc _, hF.alloc _⟩

set_option maxHeartbeats 400000 in
theorem swap_any (b c n a : Nat) (ws : List Int) (st k0 a0 o0 v0 : Int) (d0 : Bool) (old new : Int) (w : World) (hM : Mem w b c n ws st k0 a0 o0 v0 d0) (ha : a < n) (s0 : 0 ≤ st) (s1 : st ≤ 1000000) :
    Calls Try.prog 52 #[.pointer (some ⟨b, 0, none⟩), .int .i64 (a : Int), .int .i64 old, .int .i64 new] w fun e w' => e = .returned (.tuple #[.bool (dnOf 3 old (ws.getD a 0)), .int .i64 0]) ∧
      Mem w' b c n (ws.set a (nwOf 3 old new (ws.getD a 0))) (st + 1) 3 a (ws.getD a 0) (nwOf 3 old new (ws.getD a 0)) (dnOf 3 old (ws.getD a 0)) ∧ Frm b c w w' := by
  go_enter Try.func52, Try.ntmps52
  go_wp2_with fail
  refine (access_yes b c n a ws st k0 a0 o0 v0 d0 3 old new false _ (by omega) hM ha s0 s1).mono ?_
  rintro e w' ⟨rfl, hM1, hF⟩
  generalize hnw : nwOf 3 old new (ws.getD a 0) = nw at *
  generalize hdn : dnOf 3 old (ws.getD a 0) = dn at *
  have Hnw := hide hnw
  have Hdn := hide hdn
  clear hnw hdn
  go_wp2
  go_ret2
  rw [unhide Hnw, unhide Hdn]
  exact ⟨rfl, hM1.alloc _, hF.alloc _⟩

set_option maxHeartbeats 400000 in
theorem words_any (b c n : Nat) (ws : List Int) (st k a o v : Int) (d : Bool) (w : World) (hM : Mem w b c n ws st k a o v d) :
    Calls Try.prog 24 #[.pointer (some ⟨b, 0, none⟩)] w fun e w' => e = .returned (.slice (some ⟨w.heap.size, 0, none⟩) n n) ∧
      w'.heap[w.heap.size]? = some (.cells (ws.map (Value.int .i64)).toArray 2) ∧ Below w.heap.size w w' := by
  obtain ⟨h0, h1, h2, h3, h4, h5, h6, hf⟩ := hM.cells
  have hb := hM.blt
  have hlen := hM.len
  have hhi := hM.hi
  have hmk := fun w => run_make_row' (P := Try.prog) 55 2 (.int .i64 0) 8 Try.underlying55 info2 rfl .i64 .i64 n (by omega) (by omega) w
  have hsz2 : (Try.prog.info? 2).map (·.size) = some 1 := by kernel_rfl
  have hcp : ∀ ty, (Builtin.copy_ #[55, 55] ty #[.slice (some ⟨w.heap.size, 0, none⟩) n n, .slice (some ⟨c, 0, none⟩) n n]).run Try.prog (w.alloc (.cells (madeCells #[.int .i64 0] n) 2)) =
      .ok (goInt (ws.map (Value.int .i64)).length) ((w.alloc (.cells (madeCells #[.int .i64 0] n) 2)).setRow w.heap.size ((madeCells #[.int .i64 0] n).toList.take 0 ++ ws.map (Value.int .i64) ++ (madeCells #[.int .i64 0] n).toList.drop (0 + (ws.map (Value.int .i64)).length)).toArray) := by
    intro ty
    refine run_copy_row (P := Try.prog) _ 55 55 ty 2 w.heap.size 0 n n ⟨c, 0, none⟩ n n (madeCells #[.int .i64 0] n) 2 (ws.map (Value.int .i64)) Try.underlying55 hsz2 (putAll _ _ rfl) (by simp [hlen]) ?_ (by simp [size_madeCells, hlen]) ?_
    · intro j v hj
      have := hM.hc
      rw [← Below.heap_alloc w (.cells (madeCells #[.int .i64 0] n) 2) c hM.clt] at this
      have ea : (⟨c, 0, none⟩ : Addr).add j = ⟨c, j, none⟩ := by unfold Addr.add; split <;> simp_all
      rw [ea, cell_of this]
      simpa using hj
    · intro v hv
      obtain ⟨x, _, rfl⟩ := List.mem_map.1 hv
      rfl
  have hrow : ((w.alloc (.cells (madeCells #[.int .i64 0] n) 2)).setRow w.heap.size ((madeCells #[.int .i64 0] n).toList.take 0 ++ ws.map (Value.int .i64) ++ (madeCells #[.int .i64 0] n).toList.drop (0 + (ws.map (Value.int .i64)).length)).toArray).heap[w.heap.size]? = some (.cells (ws.map (Value.int .i64)).toArray 2) := by
    rw [setRow_heap _ _ _ _ _ _ (putAll _ _ rfl)]
    have e : (madeCells #[.int .i64 0] n).toList.drop (0 + (ws.map (Value.int .i64)).length) = [] := by
      apply List.drop_eq_nil_of_le
      simp [size_madeCells, hlen]
    rw [e]
    simp
  have hbel : Below w.heap.size w ((w.alloc (.cells (madeCells #[.int .i64 0] n) 2)).setRow w.heap.size ((madeCells #[.int .i64 0] n).toList.take 0 ++ ws.map (Value.int .i64) ++ (madeCells #[.int .i64 0] n).toList.drop (0 + (ws.map (Value.int .i64)).length)).toArray) :=
    below_setRow ((Below.refl _ _).alloc (Nat.le_refl _) _) (Nat.le_refl _) _
  generalize ((w.alloc (.cells (madeCells #[.int .i64 0] n) 2)).setRow w.heap.size ((madeCells #[.int .i64 0] n).toList.take 0 ++ ws.map (Value.int .i64) ++ (madeCells #[.int .i64 0] n).toList.drop (0 + (ws.map (Value.int .i64)).length)).toArray) = W2 at hcp hrow hbel
  have Hrow := hide hrow
  clear hrow hlen
  go_enter Try.func24, Try.ntmps24
  go_wp2
  go_ret
  exact ⟨rfl, unhide Hrow, hbel⟩

end Go.Proofs.Ytkgeapmafpeapaa
