/-
  The contract of tame.
-/
import Derived.Test.YtlngeaacjbdmhaaTWrite
namespace Go.Proofs.Ytlngeaacjbdmhaa
open Go.RowKit Go.Maps

abbrev nA : ByteArray := ⟨#[97]⟩
abbrev nB : ByteArray := ⟨#[98]⟩
abbrev nC : ByteArray := ⟨#[99]⟩
abbrev askV (kd dir to n : Int) (s r : ByteArray) (a0 a1 a2 a3 a4 a5 a6 : Int) (b : Value) : Value := .agg #[I kd, I dir, I to, I n, .string s, .string r, I a0, I a1, I a2, I a3, I a4, I a5, I a6, b]
def Abc (s : ByteArray) : Prop := s = nA ∨ s = nB ∨ s = nC
theorem cells14 {W : World} {b : Nat} {v0 v1 v2 v3 v4 v5 v6 v7 v8 v9 v10 v11 v12 v13 : Value} {ty : TypeId} (h : W.heap[b]? = some (.cells #[v0, v1, v2, v3, v4, v5, v6, v7, v8, v9, v10, v11, v12, v13] ty)) : W.cell? ⟨b, 0, none⟩ = some v0 ∧ W.cell? ⟨b, 1, none⟩ = some v1 ∧ W.cell? ⟨b, 2, none⟩ = some v2 ∧ W.cell? ⟨b, 3, none⟩ = some v3 ∧ W.cell? ⟨b, 4, none⟩ = some v4 ∧ W.cell? ⟨b, 5, none⟩ = some v5 ∧ W.cell? ⟨b, 6, none⟩ = some v6 ∧ W.cell? ⟨b, 7, none⟩ = some v7 ∧ W.cell? ⟨b, 8, none⟩ = some v8 ∧ W.cell? ⟨b, 9, none⟩ = some v9 ∧ W.cell? ⟨b, 10, none⟩ = some v10 ∧ W.cell? ⟨b, 11, none⟩ = some v11 ∧ W.cell? ⟨b, 12, none⟩ = some v12 ∧ W.cell? ⟨b, 13, none⟩ = some v13 ∧ ∀ i, W.frozen? ⟨b, i, none⟩ = false := by
  refine ⟨?_, ?_, ?_, ?_, ?_, ?_, ?_, ?_, ?_, ?_, ?_, ?_, ?_, ?_, frozen_of h⟩ <;> (rw [cell_of h]; rfl)
theorem put14 {W : World} {q : Nat} {z0 z1 z2 z3 z4 z5 z6 z7 z8 z9 z10 z11 z12 z13 v0 v1 v2 v3 v4 v5 v6 v7 v8 v9 v10 v11 v12 v13 : Value} {ty : TypeId} (h : W.heap[q]? = some (.cells #[z0, z1, z2, z3, z4, z5, z6, z7, z8, z9, z10, z11, z12, z13] ty)) : ((((((((((((((W.setCell ⟨q, 0, none⟩ v0).setCell ⟨q, 1, none⟩ v1).setCell ⟨q, 2, none⟩ v2).setCell ⟨q, 3, none⟩ v3).setCell ⟨q, 4, none⟩ v4).setCell ⟨q, 5, none⟩ v5).setCell ⟨q, 6, none⟩ v6).setCell ⟨q, 7, none⟩ v7).setCell ⟨q, 8, none⟩ v8).setCell ⟨q, 9, none⟩ v9).setCell ⟨q, 10, none⟩ v10).setCell ⟨q, 11, none⟩ v11).setCell ⟨q, 12, none⟩ v12).setCell ⟨q, 13, none⟩ v13).heap[q]? = some (.cells #[v0, v1, v2, v3, v4, v5, v6, v7, v8, v9, v10, v11, v12, v13] ty) := by
  rw [heap_set (heap_set (heap_set (heap_set (heap_set (heap_set (heap_set (heap_set (heap_set (heap_set (heap_set (heap_set (heap_set (heap_set h 0 _) 1 _) 2 _) 3 _) 4 _) 5 _) 6 _) 7 _) 8 _) 9 _) 10 _) 11 _) 12 _) 13 _]
  simp only [List.setIfInBounds_toArray, List.set_cons_succ, List.set_cons_zero]
theorem put14b {w W : World} {p q : Nat} {v0 v1 v2 v3 v4 v5 v6 v7 v8 v9 v10 v11 v12 v13 : Value} (hp : p ≤ q) (h : Below p w W) : Below p w ((((((((((((((W.setCell ⟨q, 0, none⟩ v0).setCell ⟨q, 1, none⟩ v1).setCell ⟨q, 2, none⟩ v2).setCell ⟨q, 3, none⟩ v3).setCell ⟨q, 4, none⟩ v4).setCell ⟨q, 5, none⟩ v5).setCell ⟨q, 6, none⟩ v6).setCell ⟨q, 7, none⟩ v7).setCell ⟨q, 8, none⟩ v8).setCell ⟨q, 9, none⟩ v9).setCell ⟨q, 10, none⟩ v10).setCell ⟨q, 11, none⟩ v11).setCell ⟨q, 12, none⟩ v12).setCell ⟨q, 13, none⟩ v13) := ((((((((((((((h.setCell (p := ⟨q, 0, none⟩) hp _).setCell (p := ⟨q, 1, none⟩) hp _).setCell (p := ⟨q, 2, none⟩) hp _).setCell (p := ⟨q, 3, none⟩) hp _).setCell (p := ⟨q, 4, none⟩) hp _).setCell (p := ⟨q, 5, none⟩) hp _).setCell (p := ⟨q, 6, none⟩) hp _).setCell (p := ⟨q, 7, none⟩) hp _).setCell (p := ⟨q, 8, none⟩) hp _).setCell (p := ⟨q, 9, none⟩) hp _).setCell (p := ⟨q, 10, none⟩) hp _).setCell (p := ⟨q, 11, none⟩) hp _).setCell (p := ⟨q, 12, none⟩) hp _).setCell (p := ⟨q, 13, none⟩) hp _)
/-- What lies while tame goes. -/
structure TA (w W : World) (p : Nat) (A : Array Value) : Prop where
  x : W.heap[p]? = some (.cells A 32)
  z : W.heap[p + 1]? = some (.cells #[Value.int IntKind.i64 0, Value.int IntKind.i64 0, Value.int IntKind.i64 0, Value.int IntKind.i64 0, Value.string { data := #[] }, Value.string { data := #[] }, Value.int IntKind.i64 0, Value.int IntKind.i64 0, Value.int IntKind.i64 0, Value.int IntKind.i64 0, Value.int IntKind.i64 0, Value.int IntKind.i64 0, Value.int IntKind.i64 0, Value.slice none 0 0] 32)
  b : Below p w W
theorem TA.set {w W : World} {p : Nat} {A : Array Value} (h : TA w W p A) (i : Nat) (v : Value) : TA w (W.setCell ⟨p, i, none⟩ v) p (A.setIfInBounds i v) :=
  ⟨by rw [heap_set h.x], (Below.heap_setCell _ _ _ _ (by simp)).trans h.z, h.b.setCell (p := ⟨p, i, none⟩) (by simp) v⟩
theorem TA.alloc {w W : World} {p : Nat} {A : Array Value} (h : TA w W p A) (o : Obj) : TA w (W.alloc o) p A :=
  ⟨(Below.heap_alloc _ _ _ (lt_of_heap h.x)).trans h.x, (Below.heap_alloc _ _ _ (lt_of_heap h.z)).trans h.z, h.b.alloc (Nat.le_of_lt (lt_of_heap h.x)) o⟩
theorem TA.drew {w W : World} {p : Nat} {A : Array Value} (h : TA w W p A) (k : Nat) : TA w (W.drewN k) p A := ⟨h.x, h.z, below_dn h.b k⟩
theorem abc_cells (W : World) : ∀ k : Nat, k ≤ 2 → ∃ s, Abc s ∧ (W.alloc (.cells #[Value.string nA, Value.string nB, Value.string nC] 9)).cell? ⟨W.heap.size, k, none⟩ = some (.string s) := fun k hk => by
  rw [cell_of (heap_alloc_new W _)]
  match k, hk with
  | 0, _ => exact ⟨nA, .inl rfl, rfl⟩
  | 1, _ => exact ⟨nB, .inr (.inl rfl), rfl⟩
  | 2, _ => exact ⟨nC, .inr (.inr rfl), rfl⟩
theorem ta_start (w : World) (A : Array Value) : TA w ((w.alloc (.cells A 32)).alloc (.cells #[Value.int IntKind.i64 0, Value.int IntKind.i64 0, Value.int IntKind.i64 0, Value.int IntKind.i64 0, Value.string { data := #[] }, Value.string { data := #[] }, Value.int IntKind.i64 0, Value.int IntKind.i64 0, Value.int IntKind.i64 0, Value.int IntKind.i64 0, Value.int IntKind.i64 0, Value.int IntKind.i64 0, Value.int IntKind.i64 0, Value.slice none 0 0] 32)) w.heap.size A :=
  ⟨(Below.heap_alloc _ _ _ (by simp)).trans (heap_alloc_new w _), by have := heap_alloc_new (w.alloc (.cells A 32)) (.cells #[Value.int IntKind.i64 0, Value.int IntKind.i64 0, Value.int IntKind.i64 0, Value.int IntKind.i64 0, Value.string { data := #[] }, Value.string { data := #[] }, Value.int IntKind.i64 0, Value.int IntKind.i64 0, Value.int IntKind.i64 0, Value.int IntKind.i64 0, Value.int IntKind.i64 0, Value.int IntKind.i64 0, Value.int IntKind.i64 0, Value.slice none 0 0] 32); simpa using this, ((Below.refl _ w).alloc (Nat.le_refl _) _).alloc (by simp) _⟩
set_option maxRecDepth 100000 in
set_option maxHeartbeats 2000000 in
theorem tame_any (kd dir to n : Int) (s r : ByteArray) (a0 a1 a2 a3 a4 a5 a6 : Int) (b : Option Addr) (bn bc : Nat) (w : World) :
    Calls Try.prog 5 #[askV kd dir to n s r a0 a1 a2 a3 a4 a5 a6 (.slice b bn bc)] w fun e w' => (∃ (d t k : Nat) (s' r' : ByteArray), d ≤ 5 ∧ t ≤ 5 ∧ k ≤ 1 ∧ Abc s' ∧ Abc r' ∧ e = .returned (askV kd (1 + d) (1 + t) n s' r' a0 (1 + k) a2 a3 a4 a5 a6 (.slice b bn bc))) ∧ Below w.heap.size w w' := by
  have HW5 := hide (fun (v : Int) (w : World) => within_any v 5 w (by omega) (by omega))
  have HW2 := hide (fun (v : Int) (w : World) => within_any v 2 w (by omega) (by omega))
  have HW1 := hide (fun (v : Int) (w : World) => within_any v 1 w (by omega) (by omega))
  have J0 := ta_start w #[I kd, I dir, I to, I n, .string s, .string r, I a0, I a1, I a2, I a3, I a4, I a5, I a6, .slice b bn bc]
  generalize hW : ((w.alloc (.cells #[I kd, I dir, I to, I n, .string s, .string r, I a0, I a1, I a2, I a3, I a4, I a5, I a6, .slice b bn bc] 32)).alloc (.cells #[Value.int IntKind.i64 0, Value.int IntKind.i64 0, Value.int IntKind.i64 0, Value.int IntKind.i64 0, Value.string { data := #[] }, Value.string { data := #[] }, Value.int IntKind.i64 0, Value.int IntKind.i64 0, Value.int IntKind.i64 0, Value.int IntKind.i64 0, Value.int IntKind.i64 0, Value.int IntKind.i64 0, Value.int IntKind.i64 0, Value.slice none 0 0] 32)) = W0 at J0
  generalize hp : w.heap.size = p at J0
  obtain ⟨ua0, ua1, ua2, ua3, ua4, ua5, ua6, ua7, ua8, ua9, ua10, ua11, ua12, ua13, uaf⟩ := cells14 J0.x
  have HJ0 := hide J0
  clear J0
  go_enter Try.func5, Try.ntmps5
  go_wp2_with fail
  refine (unhide HW5 _ _).mono ?_
  rintro e w' ⟨⟨d, hd, rfl⟩, rfl⟩
  have hd1 : (0 : Int) ≤ (d : Int) := by omega
  have J1 := (unhide HJ0).set 1 (I (1 + (d : Int)))
  generalize hW1 : World.setCell _ ⟨p, 1, none⟩ (I (1 + (d : Int))) = W1 at J1
  simp only [List.setIfInBounds_toArray, List.set_cons_succ, List.set_cons_zero] at J1
  clear HJ0 hW
  obtain ⟨ub0, ub1, ub2, ub3, ub4, ub5, ub6, ub7, ub8, ub9, ub10, ub11, ub12, ub13, ubf⟩ := cells14 J1.x
  have HJ1 := hide J1
  clear J1
  go_wp2_with fail
  clear hW1 ua0 ua1 ua2 ua3 ua4 ua5 ua6 ua7 ua8 ua9 ua10 ua11 ua12 ua13 uaf
  refine (unhide HW5 _ _).mono ?_
  rintro e w' ⟨⟨t, ht, rfl⟩, rfl⟩
  have ht1 : (0 : Int) ≤ (t : Int) := by omega
  have J2 := (unhide HJ1).set 2 (I (1 + (t : Int)))
  generalize hW2 : World.setCell _ ⟨p, 2, none⟩ (I (1 + (t : Int))) = W2 at J2
  simp only [List.setIfInBounds_toArray, List.set_cons_succ, List.set_cons_zero] at J2
  clear HJ1
  have K2 := J2.alloc (Obj.cells #[Value.string nA, Value.string nB, Value.string nC] 9)
  have G2 := abc_cells W2
  generalize hV2 : W2.alloc (Obj.cells #[Value.string nA, Value.string nB, Value.string nC] 9) = V2 at K2 G2
  generalize hg2 : W2.heap.size = g2 at G2
  obtain ⟨uc0, uc1, uc2, uc3, uc4, uc5, uc6, uc7, uc8, uc9, uc10, uc11, uc12, uc13, ucf⟩ := cells14 J2.x
  obtain ⟨ud0, ud1, ud2, ud3, ud4, ud5, ud6, ud7, ud8, ud9, ud10, ud11, ud12, ud13, udf⟩ := cells14 K2.x
  have HK2 := hide K2
  have HG2 := hide G2
  clear J2 K2 G2
  go_wp2_with fail
  clear hW2 hV2 hg2 ub0 ub1 ub2 ub3 ub4 ub5 ub6 ub7 ub8 ub9 ub10 ub11 ub12 ub13 ubf uc0 uc1 uc2 uc3 uc4 uc5 uc6 uc7 uc8 uc9 uc10 uc11 uc12 uc13 ucf
  refine (unhide HW2 _ _).mono ?_
  rintro e w' ⟨⟨k, hk, rfl⟩, rfl⟩
  obtain ⟨s', hs', gc⟩ := unhide HG2 k (by omega)
  have gc0 : w'.cell? ⟨g2, 0 + k, none⟩ = some (.string s') := by rw [Nat.zero_add]; exact gc
  have k3 : (k : Int) < 3 := by omega
  have HS := hide hs'
  clear hs' HG2
  have J3 := (unhide HK2).set 4 (.string s')
  generalize hW3 : World.setCell _ ⟨p, 4, none⟩ (.string s') = W3 at J3
  simp only [List.setIfInBounds_toArray, List.set_cons_succ, List.set_cons_zero] at J3
  clear HK2
  have K3 := J3.alloc (Obj.cells #[Value.string nA, Value.string nB, Value.string nC] 9)
  have G3 := abc_cells W3
  generalize hV3 : W3.alloc (Obj.cells #[Value.string nA, Value.string nB, Value.string nC] 9) = V3 at K3 G3
  generalize hg3 : W3.heap.size = g3 at G3
  obtain ⟨ue0, ue1, ue2, ue3, ue4, ue5, ue6, ue7, ue8, ue9, ue10, ue11, ue12, ue13, uef⟩ := cells14 J3.x
  obtain ⟨uf0, uf1, uf2, uf3, uf4, uf5, uf6, uf7, uf8, uf9, uf10, uf11, uf12, uf13, uff⟩ := cells14 K3.x
  have HK3 := hide K3
  have HG3 := hide G3
  clear J3 K3 G3
  go_wp2_with fail
  clear hW3 hV3 hg3 gc gc0 ud0 ud1 ud2 ud3 ud4 ud5 ud6 ud7 ud8 ud9 ud10 ud11 ud12 ud13 udf ue0 ue1 ue2 ue3 ue4 ue5 ue6 ue7 ue8 ue9 ue10 ue11 ue12 ue13 uef
  refine (unhide HW2 _ _).mono ?_
  rintro e w' ⟨⟨m, hm, rfl⟩, rfl⟩
  obtain ⟨r', hr', gd⟩ := unhide HG3 m (by omega)
  have m3 : (m : Int) < 3 := by omega
  have HR := hide hr'
  clear hr' HG3
  have J4 := (unhide HK3).set 5 (.string r')
  generalize hW4 : World.setCell _ ⟨p, 5, none⟩ (.string r') = W4 at J4
  simp only [List.setIfInBounds_toArray, List.set_cons_succ, List.set_cons_zero] at J4
  clear HK3
  obtain ⟨ug0, ug1, ug2, ug3, ug4, ug5, ug6, ug7, ug8, ug9, ug10, ug11, ug12, ug13, ugf⟩ := cells14 J4.x
  have HJ4 := hide J4
  clear J4
  go_wp2_with fail
  clear hW4 gd uf0 uf1 uf2 uf3 uf4 uf5 uf6 uf7 uf8 uf9 uf10 uf11 uf12 uf13 uff
  refine (unhide HW1 _ _).mono ?_
  rintro e w' ⟨⟨z, hz, rfl⟩, rfl⟩
  have hz1 : (0 : Int) ≤ (z : Int) := by omega
  have J5 := (unhide HJ4).set 7 (I (1 + (z : Int)))
  generalize hW5 : World.setCell _ ⟨p, 7, none⟩ (I (1 + (z : Int))) = W5 at J5
  simp only [List.setIfInBounds_toArray, List.set_cons_succ, List.set_cons_zero] at J5
  clear HJ4
  obtain ⟨uh0, uh1, uh2, uh3, uh4, uh5, uh6, uh7, uh8, uh9, uh10, uh11, uh12, uh13, uhf⟩ := cells14 J5.x
  obtain ⟨uz0, uz1, uz2, uz3, uz4, uz5, uz6, uz7, uz8, uz9, uz10, uz11, uz12, uz13, uzf⟩ := cells14 J5.z
  have HJ5 := hide J5
  clear J5
  go_wp2_with fail
  obtain ⟨X, hX⟩ : ∃ X, X = ((((((((((((((W5.setCell ⟨p + 1, 0, none⟩ (I kd)).setCell ⟨p + 1, 1, none⟩ (I (1 + (d : Int)))).setCell ⟨p + 1, 2, none⟩ (I (1 + (t : Int)))).setCell ⟨p + 1, 3, none⟩ (I n)).setCell ⟨p + 1, 4, none⟩ (.string s')).setCell ⟨p + 1, 5, none⟩ (.string r')).setCell ⟨p + 1, 6, none⟩ (I a0)).setCell ⟨p + 1, 7, none⟩ (I (1 + (z : Int)))).setCell ⟨p + 1, 8, none⟩ (I a2)).setCell ⟨p + 1, 9, none⟩ (I a3)).setCell ⟨p + 1, 10, none⟩ (I a4)).setCell ⟨p + 1, 11, none⟩ (I a5)).setCell ⟨p + 1, 12, none⟩ (I a6)).setCell ⟨p + 1, 13, none⟩ (.slice b bn bc)) := ⟨_, rfl⟩
  have hXR : X.heap[p + 1]? = some (.cells #[I kd, I (1 + (d : Int)), I (1 + (t : Int)), I n, .string s', .string r', I a0, I (1 + (z : Int)), I a2, I a3, I a4, I a5, I a6, .slice b bn bc] 32) := by
    rw [hX]
    exact put14 (unhide HJ5).z
  have hXB : Below p w X := by
    rw [hX]
    exact put14b (Nat.le_succ _) (unhide HJ5).b
  rw [← hX]
  clear hX hW5 ug0 ug1 ug2 ug3 ug4 ug5 ug6 ug7 ug8 ug9 ug10 ug11 ug12 ug13 ugf uh0 uh1 uh2 uh3 uh4 uh5 uh6 uh7 uh8 uh9 uh10 uh11 uh12 uh13 uhf uz0 uz1 uz2 uz3 uz4 uz5 uz6 uz7 uz8 uz9 uz10 uz11 uz12 uz13 uzf
  obtain ⟨ux0, ux1, ux2, ux3, ux4, ux5, ux6, ux7, ux8, ux9, ux10, ux11, ux12, ux13, uxf⟩ := cells14 hXR
  refine bodyPost_ret (v := askV kd (1 + d) (1 + t) n s' r' a0 (1 + z) a2 a3 a4 a5 a6 (.slice b bn bc)) ?_ rfl ⟨⟨d, t, z, s', r', by omega, by omega, by omega, unhide HS, unhide HR, rfl⟩, hXB⟩
  simp [results, Try.results5, go_sem, ux0, ux1, ux2, ux3, ux4, ux5, ux6, ux7, ux8, ux9, ux10, ux11, ux12, ux13]
end Go.Proofs.Ytlngeaacjbdmhaa
