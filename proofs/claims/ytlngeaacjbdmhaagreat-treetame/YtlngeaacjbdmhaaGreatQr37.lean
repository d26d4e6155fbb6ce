/-
  The contract of known.
-/
import Derived.Test.YtlngeaacjbdmhaaGreatQr10
import Derived.Test.YtlngeaacjbdmhaaGreatQr32
import Derived.ProofKit
import Derived.Deep.Slices
import Derived.SliceStrings
import Derived.Test.YtlngeaacjbdmhaaGreatQr36
import Derived.Test.YtlngeaacjbdmhaaGreatRows
import Derived.OpenShut
import Derived.ChangeOld
namespace Go.Proofs.YtlngeaacjbdmhaaGreat
open Go.RowKit Go.Maps
abbrev tA : ByteArray := ⟨#[97]⟩
abbrev tB : ByteArray := ⟨#[98]⟩
def K1 : Tr := (Tr.new 2 0).make 1 tA 1 0 0 0 ⟨#[]⟩
def K3 : Tr := K1.hold 2
def K4 : Tr := K3.part 1 tA
theorem kA : (Tr.new 2 0).makeN 1 tA 1 ⟨#[]⟩ = 2 ∧ (Tr.new 2 0).makeE 1 tA 1 ⟨#[]⟩ = 0 := by decide +kernel
theorem kB : K1.makeN 1 tB 1 ⟨#[]⟩ = 0 ∧ K1.makeE 1 tB 1 ⟨#[]⟩ = 43 := by decide +kernel
theorem kB2 : K1.make 1 tB 1 0 0 0 ⟨#[]⟩ = K1 := by rw [Tr.make, if_neg (by rw [kB.2]; decide)]
theorem kC : K1.holdE 2 = 0 ∧ K3.partE 1 tA = 0 ∧ (K4.findN 1 tA).getD 0 = 0 ∧ (K4.findN 1 tA).isSome = false ∧ (K4.nd 2).isSome = true := by decide +kernel
theorem known_facts : ∃ k1 k3 k4 : Tr, ((Tr.new 2 0).makeN 1 tA 1 ⟨#[]⟩ = 2 ∧ (Tr.new 2 0).makeE 1 tA 1 ⟨#[]⟩ = 0 ∧ (Tr.new 2 0).make 1 tA 1 0 0 0 ⟨#[]⟩ = k1) ∧ (k1.makeN 1 tB 1 ⟨#[]⟩ = 0 ∧ k1.makeE 1 tB 1 ⟨#[]⟩ = 43 ∧ k1.make 1 tB 1 0 0 0 ⟨#[]⟩ = k1) ∧ (k1.holdE 2 = 0 ∧ k1.hold 2 = k3) ∧ (k3.partE 1 tA = 0 ∧ k3.part 1 tA = k4) ∧ ((k4.findN 1 tA).getD 0 = 0 ∧ (k4.findN 1 tA).isSome = false) ∧ (k4.nd 2).isSome = true :=
  ⟨K1, K3, K4, ⟨kA.1, kA.2, rfl⟩, ⟨kB.1, kB.2, kB2⟩, ⟨kC.1, rfl⟩, ⟨kC.2.1, rfl⟩, ⟨kC.2.2.1, kC.2.2.2.1⟩, kC.2.2.2.2⟩
set_option maxRecDepth 100000 in
set_option maxHeartbeats 1000000 in
theorem known_any (w : World) : Calls Tryz.prog 18 #[] w fun e w' => e = .returned (.bool true) ∧ Below w.heap.size w w' := by
  obtain ⟨k1, k3, k4, FA, FB, FC, FD, FE, FF⟩ := known_facts
  obtain ⟨s0, s1, s2, s3, s4, s5, s6, hv2⟩ := k4.stat_form 2
  have HV := hide hv2
  have HA := hide FA
  have HBB := hide FB
  have HC := hide FC
  have HD := hide FD
  have HE := hide FE
  have HF := hide FF
  have H0 := hide (new_Q 2 0 (by omega) (by omega) w)
  have hw1 : Hid ((kl 1).wf = true) := hide (by decide)
  have hw2 : Hid ((kl 2).wf = true) := hide (by decide)
  clear hv2 FA FB FC FD FE FF
  go_enter Tryz.func18, Tryz.ntmps18
  go_wp2_with fail
  refine (unhide H0).mono ?_
  rintro e w1 ⟨t, rfl, T1, B1⟩
  go_wp2_with fail
  refine (make_Q (unhide T1) (by omega) (unhide hw1) tA 0 1 0 0 0 0 0 ⟨#[]⟩ (by decide) 2 0 k1 (unhide HA).1 (unhide HA).2.1 (unhide HA).2.2).mono ?_
  rintro e w2 ⟨rfl, T2, X2⟩
  go_wp2_with fail
  refine (make_Q (unhide T2) (by omega) (unhide hw1) tB 0 1 0 0 0 0 0 ⟨#[]⟩ (by decide) 0 43 k1 (unhide HBB).1 (unhide HBB).2.1 (unhide HBB).2.2).mono ?_
  rintro e w3 ⟨rfl, T3, X3⟩
  go_wp2_with fail
  refine (hold_Q (unhide T3) (by omega) (unhide hw2) 0 k3 (unhide HC).1 (unhide HC).2).mono ?_
  rintro e w4 ⟨rfl, T4, X4⟩
  go_wp2_with fail
  refine (part_Q (unhide T4) (by omega) (unhide hw1) tA 0 k4 (unhide HD).1 (unhide HD).2).mono ?_
  rintro e w5 ⟨rfl, T5, X5⟩
  go_wp2_with fail
  refine (find_Q (unhide T5) (by omega) (unhide hw1) tA 0 false (unhide HE).1 (unhide HE).2).mono ?_
  rintro e w6 ⟨rfl, T6, X6⟩
  go_wp2_with fail
  refine (stat_Q (unhide T6) (by omega) (unhide hw2) (stV s0 s1 s2 s3 s4 s5 s6) true (unhide HV) (unhide HF)).mono ?_
  rintro e w7 ⟨rfl, T7, X7⟩
  go_wp2_with fail
  go_ret
  have hle := (unhide B1).size
  have hX := (((unhide X2).trans (unhide X3)).trans ((unhide X4).trans (unhide X5))).trans ((Tx.of_below (unhide X6) (unhide T5).lo_le).trans (Tx.of_below (unhide X7) (unhide T6).lo_le))
  have hF := hX.fst (unhide B1) (Nat.le_refl _)
  exact ⟨rfl, hF.alloc hF.size _⟩
end Go.Proofs.YtlngeaacjbdmhaaGreat

namespace Go.Proofs.YtlngeaacjbdmhaaGreat
open Go.RowKit Go.Maps
set_option maxHeartbeats 400000 in
theorem within_any (v hi : Int) (w : World) (h0 : 0 ≤ hi) (h1 : hi ≤ 1000) :
    Calls Tryz.prog 23 #[.int .i64 v, .int .i64 0, .int .i64 hi] w fun e w' => (∃ r : Nat, (r : Int) ≤ hi ∧ e = .returned (I (r : Int))) ∧ w' = w := by
  have t1 : v.tmod (hi + 1) < hi + 1 := Int.tmod_lt_of_pos v (by omega)
  have t2 : -(hi + 1) < v.tmod (hi + 1) := by
    have h := Int.tmod_lt_of_pos (-v) (show 0 < hi + 1 by omega)
    rw [Int.neg_tmod] at h
    omega
  have t3 : ¬ hi + 1 = 0 := by omega
  by_cases hn : v.tmod (hi + 1) < 0
  · go_enter Tryz.func23, Tryz.ntmps23
    go_wp2
    go_ret
    refine ⟨⟨(v.tmod (hi + 1) + hi + 1).toNat, by omega, ?_⟩, rfl⟩
    rw [Int.toNat_of_nonneg (by omega)]
    rfl
  · go_enter Tryz.func23, Tryz.ntmps23
    go_wp2
    go_ret
    refine ⟨⟨(v.tmod (hi + 1)).toNat, by omega, ?_⟩, rfl⟩
    rw [Int.toNat_of_nonneg (by omega)]
    rfl
end Go.Proofs.YtlngeaacjbdmhaaGreat

namespace Go.Proofs.YtlngeaacjbdmhaaGreat
open Go.RowKit Go.Maps
abbrev nA : ByteArray := ⟨#[97]⟩
abbrev nB : ByteArray := ⟨#[98]⟩
abbrev nC : ByteArray := ⟨#[99]⟩
abbrev askV (kd dir tq0 n : Int) (s r : ByteArray) (a0 a1 a2 a3 a4 a5 a6 : Int) (b : Value) : Value := .agg #[I kd, I dir, I tq0, I n, .string s, .string r, I a0, I a1, I a2, I a3, I a4, I a5, I a6, b]
def Abc (s : ByteArray) : Prop := s = nA ∨ s = nB ∨ s = nC
theorem cells14 {W : World} {b : Nat} {v0 v1 v2 v3 v4 v5 v6 v7 v8 v9 v10 v11 v12 v13 : Value} {ty : TypeId} (h : W.heap[b]? = some (.cells #[v0, v1, v2, v3, v4, v5, v6, v7, v8, v9, v10, v11, v12, v13] ty)) : W.cell? ⟨b, 0, none⟩ = some v0 ∧ W.cell? ⟨b, 1, none⟩ = some v1 ∧ W.cell? ⟨b, 2, none⟩ = some v2 ∧ W.cell? ⟨b, 3, none⟩ = some v3 ∧ W.cell? ⟨b, 4, none⟩ = some v4 ∧ W.cell? ⟨b, 5, none⟩ = some v5 ∧ W.cell? ⟨b, 6, none⟩ = some v6 ∧ W.cell? ⟨b, 7, none⟩ = some v7 ∧ W.cell? ⟨b, 8, none⟩ = some v8 ∧ W.cell? ⟨b, 9, none⟩ = some v9 ∧ W.cell? ⟨b, 10, none⟩ = some v10 ∧ W.cell? ⟨b, 11, none⟩ = some v11 ∧ W.cell? ⟨b, 12, none⟩ = some v12 ∧ W.cell? ⟨b, 13, none⟩ = some v13 ∧ ∀ i, W.frozen? ⟨b, i, none⟩ = false := by
  refine ⟨?_, ?_, ?_, ?_, ?_, ?_, ?_, ?_, ?_, ?_, ?_, ?_, ?_, ?_, frozen_of h⟩ <;> (rw [cell_of h]; rfl)
theorem put14 {W : World} {q : Nat} {z0 z1 z2 z3 z4 z5 z6 z7 z8 z9 z10 z11 z12 z13 v0 v1 v2 v3 v4 v5 v6 v7 v8 v9 v10 v11 v12 v13 : Value} {ty : TypeId} (h : W.heap[q]? = some (.cells #[z0, z1, z2, z3, z4, z5, z6, z7, z8, z9, z10, z11, z12, z13] ty)) : ((((((((((((((W.setCell ⟨q, 0, none⟩ v0).setCell ⟨q, 1, none⟩ v1).setCell ⟨q, 2, none⟩ v2).setCell ⟨q, 3, none⟩ v3).setCell ⟨q, 4, none⟩ v4).setCell ⟨q, 5, none⟩ v5).setCell ⟨q, 6, none⟩ v6).setCell ⟨q, 7, none⟩ v7).setCell ⟨q, 8, none⟩ v8).setCell ⟨q, 9, none⟩ v9).setCell ⟨q, 10, none⟩ v10).setCell ⟨q, 11, none⟩ v11).setCell ⟨q, 12, none⟩ v12).setCell ⟨q, 13, none⟩ v13).heap[q]? = some (.cells #[v0, v1, v2, v3, v4, v5, v6, v7, v8, v9, v10, v11, v12, v13] ty) := by
  rw [heap_set (heap_set (heap_set (heap_set (heap_set (heap_set (heap_set (heap_set (heap_set (heap_set (heap_set (heap_set (heap_set (heap_set h 0 _) 1 _) 2 _) 3 _) 4 _) 5 _) 6 _) 7 _) 8 _) 9 _) 10 _) 11 _) 12 _) 13 _]
  simp only [List.setIfInBounds_toArray, List.set_cons_succ, List.set_cons_zero]
theorem put14b {w W : World} {p q : Nat} {v0 v1 v2 v3 v4 v5 v6 v7 v8 v9 v10 v11 v12 v13 : Value} (hp : p ≤ q) (h : Below p w W) : Below p w ((((((((((((((W.setCell ⟨q, 0, none⟩ v0).setCell ⟨q, 1, none⟩ v1).setCell ⟨q, 2, none⟩ v2).setCell ⟨q, 3, none⟩ v3).setCell ⟨q, 4, none⟩ v4).setCell ⟨q, 5, none⟩ v5).setCell ⟨q, 6, none⟩ v6).setCell ⟨q, 7, none⟩ v7).setCell ⟨q, 8, none⟩ v8).setCell ⟨q, 9, none⟩ v9).setCell ⟨q, 10, none⟩ v10).setCell ⟨q, 11, none⟩ v11).setCell ⟨q, 12, none⟩ v12).setCell ⟨q, 13, none⟩ v13) := ((((((((((((((h.setCell (p := ⟨q, 0, none⟩) hp _).setCell (p := ⟨q, 1, none⟩) hp _).setCell (p := ⟨q, 2, none⟩) hp _).setCell (p := ⟨q, 3, none⟩) hp _).setCell (p := ⟨q, 4, none⟩) hp _).setCell (p := ⟨q, 5, none⟩) hp _).setCell (p := ⟨q, 6, none⟩) hp _).setCell (p := ⟨q, 7, none⟩) hp _).setCell (p := ⟨q, 8, none⟩) hp _).setCell (p := ⟨q, 9, none⟩) hp _).setCell (p := ⟨q, 10, none⟩) hp _).setCell (p := ⟨q, 11, none⟩) hp _).setCell (p := ⟨q, 12, none⟩) hp _).setCell (p := ⟨q, 13, none⟩) hp _)
structure TA (w W : World) (p : Nat) (A : Array Value) : Prop where
  x : W.heap[p]? = some (.cells A 36)
  z : W.heap[p + 1]? = some (.cells #[Value.int IntKind.i64 0, Value.int IntKind.i64 0, Value.int IntKind.i64 0, Value.int IntKind.i64 0, Value.string { data := #[] }, Value.string { data := #[] }, Value.int IntKind.i64 0, Value.int IntKind.i64 0, Value.int IntKind.i64 0, Value.int IntKind.i64 0, Value.int IntKind.i64 0, Value.int IntKind.i64 0, Value.int IntKind.i64 0, Value.slice none 0 0] 36)
  b : Below p w W
theorem TA.set {w W : World} {p : Nat} {A : Array Value} (h : TA w W p A) (i : Nat) (v : Value) : TA w (W.setCell ⟨p, i, none⟩ v) p (A.setIfInBounds i v) :=
  ⟨by rw [heap_set h.x], (Below.heap_setCell _ _ _ _ (by simp)).trans h.z, h.b.setCell (p := ⟨p, i, none⟩) (by simp) v⟩
theorem TA.alloc {w W : World} {p : Nat} {A : Array Value} (h : TA w W p A) (o : Obj) : TA w (W.alloc o) p A :=
  ⟨(Below.heap_alloc _ _ _ (lt_of_heap h.x)).trans h.x, (Below.heap_alloc _ _ _ (lt_of_heap h.z)).trans h.z, h.b.alloc (Nat.le_of_lt (lt_of_heap h.x)) o⟩
theorem TA.drew {w W : World} {p : Nat} {A : Array Value} (h : TA w W p A) (k : Nat) : TA w (W.drewN k) p A := ⟨h.x, h.z, below_dn h.b k⟩
theorem abc_cells (W : World) : ∀ k : Nat, k ≤ 2 → ∃ s, Abc s ∧ (W.alloc (.cells #[Value.string nA, Value.string nB, Value.string nC] 9)).cell? ⟨W.heap.size, k, none⟩ = some (.string s) := fun k hk => by
  rw [cell_of (heap_alloc_new W _)]
  match k, hk with
  | 0, _ => exact ⟨nA, .inl rfl, rfl⟩
  | 1, _ => exact ⟨nB, .inr (.inl rfl), rfl⟩
  | 2, _ => exact ⟨nC, .inr (.inr rfl), rfl⟩
theorem ta_start (w : World) (A : Array Value) : TA w ((w.alloc (.cells A 36)).alloc (.cells #[Value.int IntKind.i64 0, Value.int IntKind.i64 0, Value.int IntKind.i64 0, Value.int IntKind.i64 0, Value.string { data := #[] }, Value.string { data := #[] }, Value.int IntKind.i64 0, Value.int IntKind.i64 0, Value.int IntKind.i64 0, Value.int IntKind.i64 0, Value.int IntKind.i64 0, Value.int IntKind.i64 0, Value.int IntKind.i64 0, Value.slice none 0 0] 36)) w.heap.size A :=
  ⟨(Below.heap_alloc _ _ _ (by simp)).trans (heap_alloc_new w _), by have := heap_alloc_new (w.alloc (.cells A 36)) (.cells #[Value.int IntKind.i64 0, Value.int IntKind.i64 0, Value.int IntKind.i64 0, Value.int IntKind.i64 0, Value.string { data := #[] }, Value.string { data := #[] }, Value.int IntKind.i64 0, Value.int IntKind.i64 0, Value.int IntKind.i64 0, Value.int IntKind.i64 0, Value.int IntKind.i64 0, Value.int IntKind.i64 0, Value.int IntKind.i64 0, Value.slice none 0 0] 36); simpa using this, ((Below.refl _ w).alloc (Nat.le_refl _) _).alloc (by simp) _⟩
set_option maxRecDepth 100000 in
set_option maxHeartbeats 2000000 in
theorem tame_any (kd dir tq0 n : Int) (s r : ByteArray) (a0 a1 a2 a3 a4 a5 a6 : Int) (b : Option Addr) (bn bc : Nat) (w : World) :
    Calls Tryz.prog 24 #[askV kd dir tq0 n s r a0 a1 a2 a3 a4 a5 a6 (.slice b bn bc)] w fun e w' => (∃ (d t k : Nat) (s' r' : ByteArray), d ≤ 5 ∧ t ≤ 5 ∧ k ≤ 1 ∧ Abc s' ∧ Abc r' ∧ e = .returned (askV kd (1 + d) (1 + t) n s' r' a0 (1 + k) a2 a3 a4 a5 a6 (.slice b bn bc))) ∧ Below w.heap.size w w' := by
  have HW5 := hide (fun (v : Int) (w : World) => within_any v 5 w (by omega) (by omega))
  have HW2 := hide (fun (v : Int) (w : World) => within_any v 2 w (by omega) (by omega))
  have HW1 := hide (fun (v : Int) (w : World) => within_any v 1 w (by omega) (by omega))
  have J0 := ta_start w #[I kd, I dir, I tq0, I n, .string s, .string r, I a0, I a1, I a2, I a3, I a4, I a5, I a6, .slice b bn bc]
  generalize hW : ((w.alloc (.cells #[I kd, I dir, I tq0, I n, .string s, .string r, I a0, I a1, I a2, I a3, I a4, I a5, I a6, .slice b bn bc] 36)).alloc (.cells #[Value.int IntKind.i64 0, Value.int IntKind.i64 0, Value.int IntKind.i64 0, Value.int IntKind.i64 0, Value.string { data := #[] }, Value.string { data := #[] }, Value.int IntKind.i64 0, Value.int IntKind.i64 0, Value.int IntKind.i64 0, Value.int IntKind.i64 0, Value.int IntKind.i64 0, Value.int IntKind.i64 0, Value.int IntKind.i64 0, Value.slice none 0 0] 36)) = W0 at J0
  generalize hp : w.heap.size = p at J0
  obtain ⟨ua0, ua1, ua2, ua3, ua4, ua5, ua6, ua7, ua8, ua9, ua10, ua11, ua12, ua13, uaf⟩ := cells14 J0.x
  have HJ0 := hide J0
  clear J0
  go_enter Tryz.func24, Tryz.ntmps24
  go_wp2_with fail
  refine (unhide HW5 _ _).mono ?_
  rintro e w' ⟨⟨d, hd, rfl⟩, rfl⟩
  have hd1 : (0 : Int) ≤ (d : Int) := by omega
  have J1 := (unhide HJ0).set 1 (I (1 + (d : Int)))
  generalize hW1 : World.setCell _ ⟨p, 1, none⟩ (I (1 + (d : Int))) = W1 at J1
  simp only [List.setIfInBounds_toArray, List.set_cons_succ, List.set_cons_zero] at J1
  clear HJ0 hW
  obtain ⟨ub0, ub1, ub2, ub3, ub4, ub5, ub6, ub7, ub8, ub9, ub10, ub11, ub12, ub13, ubf⟩ := cells14 J1.x
  have HJ1 := hide J1
  clear J1
  go_wp2_with fail
  clear hW1 ua0 ua1 ua2 ua3 ua4 ua5 ua6 ua7 ua8 ua9 ua10 ua11 ua12 ua13 uaf
  refine (unhide HW5 _ _).mono ?_
  rintro e w' ⟨⟨t, ht, rfl⟩, rfl⟩
  have ht1 : (0 : Int) ≤ (t : Int) := by omega
  have J2 := (unhide HJ1).set 2 (I (1 + (t : Int)))
  generalize hW2 : World.setCell _ ⟨p, 2, none⟩ (I (1 + (t : Int))) = W2 at J2
  simp only [List.setIfInBounds_toArray, List.set_cons_succ, List.set_cons_zero] at J2
  clear HJ1
  have K2 := J2.alloc (Obj.cells #[Value.string nA, Value.string nB, Value.string nC] 9)
  have G2 := abc_cells W2
  generalize hV2 : W2.alloc (Obj.cells #[Value.string nA, Value.string nB, Value.string nC] 9) = V2 at K2 G2
  generalize hg2 : W2.heap.size = g2 at G2
  obtain ⟨uc0, uc1, uc2, uc3, uc4, uc5, uc6, uc7, uc8, uc9, uc10, uc11, uc12, uc13, ucf⟩ := cells14 J2.x
  obtain ⟨ud0, ud1, ud2, ud3, ud4, ud5, ud6, ud7, ud8, ud9, ud10, ud11, ud12, ud13, udf⟩ := cells14 K2.x
  have HK2 := hide K2
  have HG2 := hide G2
  clear J2 K2 G2
  go_wp2_with fail
  clear hW2 hV2 hg2 ub0 ub1 ub2 ub3 ub4 ub5 ub6 ub7 ub8 ub9 ub10 ub11 ub12 ub13 ubf uc0 uc1 uc2 uc3 uc4 uc5 uc6 uc7 uc8 uc9 uc10 uc11 uc12 uc13 ucf
  refine (unhide HW2 _ _).mono ?_
  rintro e w' ⟨⟨k, hk, rfl⟩, rfl⟩
  obtain ⟨s', hs', gc⟩ := unhide HG2 k (by omega)
  have gc0 : w'.cell? ⟨g2, 0 + k, none⟩ = some (.string s') := by rw [Nat.zero_add]; exact gc
  have k3 : (k : Int) < 3 := by omega
  have HS := hide hs'
  clear hs' HG2
  have J3 := (unhide HK2).set 4 (.string s')
  generalize hW3 : World.setCell _ ⟨p, 4, none⟩ (.string s') = W3 at J3
  simp only [List.setIfInBounds_toArray, List.set_cons_succ, List.set_cons_zero] at J3
  clear HK2
  have K3 := J3.alloc (Obj.cells #[Value.string nA, Value.string nB, Value.string nC] 9)
  have G3 := abc_cells W3
  generalize hV3 : W3.alloc (Obj.cells #[Value.string nA, Value.string nB, Value.string nC] 9) = V3 at K3 G3
  generalize hg3 : W3.heap.size = g3 at G3
  obtain ⟨ue0, ue1, ue2, ue3, ue4, ue5, ue6, ue7, ue8, ue9, ue10, ue11, ue12, ue13, uef⟩ := cells14 J3.x
  obtain ⟨uf0, uf1, uf2, uf3, uf4, uf5, uf6, uf7, uf8, uf9, uf10, uf11, uf12, uf13, uff⟩ := cells14 K3.x
  have HK3 := hide K3
  have HG3 := hide G3
  clear J3 K3 G3
  go_wp2_with fail
  clear hW3 hV3 hg3 gc gc0 ud0 ud1 ud2 ud3 ud4 ud5 ud6 ud7 ud8 ud9 ud10 ud11 ud12 ud13 udf ue0 ue1 ue2 ue3 ue4 ue5 ue6 ue7 ue8 ue9 ue10 ue11 ue12 ue13 uef
  refine (unhide HW2 _ _).mono ?_
  rintro e w' ⟨⟨m, hm, rfl⟩, rfl⟩
  obtain ⟨r', hr', gd⟩ := unhide HG3 m (by omega)
  have m3 : (m : Int) < 3 := by omega
  have HR := hide hr'
  clear hr' HG3
  have J4 := (unhide HK3).set 5 (.string r')
  generalize hW4 : World.setCell _ ⟨p, 5, none⟩ (.string r') = W4 at J4
  simp only [List.setIfInBounds_toArray, List.set_cons_succ, List.set_cons_zero] at J4
  clear HK3
  obtain ⟨ug0, ug1, ug2, ug3, ug4, ug5, ug6, ug7, ug8, ug9, ug10, ug11, ug12, ug13, ugf⟩ := cells14 J4.x
  have HJ4 := hide J4
  clear J4
  go_wp2_with fail
  clear hW4 gd uf0 uf1 uf2 uf3 uf4 uf5 uf6 uf7 uf8 uf9 uf10 uf11 uf12 uf13 uff
  refine (unhide HW1 _ _).mono ?_
  rintro e w' ⟨⟨z, hz, rfl⟩, rfl⟩
  have hz1 : (0 : Int) ≤ (z : Int) := by omega
  have J5 := (unhide HJ4).set 7 (I (1 + (z : Int)))
  generalize hW5 : World.setCell _ ⟨p, 7, none⟩ (I (1 + (z : Int))) = W5 at J5
  simp only [List.setIfInBounds_toArray, List.set_cons_succ, List.set_cons_zero] at J5
  clear HJ4
  obtain ⟨uh0, uh1, uh2, uh3, uh4, uh5, uh6, uh7, uh8, uh9, uh10, uh11, uh12, uh13, uhf⟩ := cells14 J5.x
  obtain ⟨uz0, uz1, uz2, uz3, uz4, uz5, uz6, uz7, uz8, uz9, uz10, uz11, uz12, uz13, uzf⟩ := cells14 J5.z
  have HJ5 := hide J5
  clear J5
  go_wp2_with fail
  obtain ⟨X, hX⟩ : ∃ X, X = ((((((((((((((W5.setCell ⟨p + 1, 0, none⟩ (I kd)).setCell ⟨p + 1, 1, none⟩ (I (1 + (d : Int)))).setCell ⟨p + 1, 2, none⟩ (I (1 + (t : Int)))).setCell ⟨p + 1, 3, none⟩ (I n)).setCell ⟨p + 1, 4, none⟩ (.string s')).setCell ⟨p + 1, 5, none⟩ (.string r')).setCell ⟨p + 1, 6, none⟩ (I a0)).setCell ⟨p + 1, 7, none⟩ (I (1 + (z : Int)))).setCell ⟨p + 1, 8, none⟩ (I a2)).setCell ⟨p + 1, 9, none⟩ (I a3)).setCell ⟨p + 1, 10, none⟩ (I a4)).setCell ⟨p + 1, 11, none⟩ (I a5)).setCell ⟨p + 1, 12, none⟩ (I a6)).setCell ⟨p + 1, 13, none⟩ (.slice b bn bc)) := ⟨_, rfl⟩
  have hXR : X.heap[p + 1]? = some (.cells #[I kd, I (1 + (d : Int)), I (1 + (t : Int)), I n, .string s', .string r', I a0, I (1 + (z : Int)), I a2, I a3, I a4, I a5, I a6, .slice b bn bc] 36) := by
    rw [hX]
    exact put14 (unhide HJ5).z
  have hXB : Below p w X := by
    rw [hX]
    exact put14b (Nat.le_succ _) (unhide HJ5).b
  rw [← hX]
  clear hX hW5 ug0 ug1 ug2 ug3 ug4 ug5 ug6 ug7 ug8 ug9 ug10 ug11 ug12 ug13 ugf uh0 uh1 uh2 uh3 uh4 uh5 uh6 uh7 uh8 uh9 uh10 uh11 uh12 uh13 uhf uz0 uz1 uz2 uz3 uz4 uz5 uz6 uz7 uz8 uz9 uz10 uz11 uz12 uz13 uzf
  obtain ⟨ux0, ux1, ux2, ux3, ux4, ux5, ux6, ux7, ux8, ux9, ux10, ux11, ux12, ux13, uxf⟩ := cells14 hXR
  refine bodyPost_ret (v := askV kd (1 + d) (1 + t) n s' r' a0 (1 + z) a2 a3 a4 a5 a6 (.slice b bn bc)) ?_ rfl ⟨⟨d, t, z, s', r', by omega, by omega, by omega, unhide HS, unhide HR, rfl⟩, hXB⟩
  simp [results, Tryz.results24, go_sem, ux0, ux1, ux2, ux3, ux4, ux5, ux6, ux7, ux8, ux9, ux10, ux11, ux12, ux13]
end Go.Proofs.YtlngeaacjbdmhaaGreat

namespace Go.Proofs.YtlngeaacjbdmhaaGreat
open Go.ChangeShapes Go.WideShapes Go.ChangeAt Go.RowKit Go.Deep
theorem spot_none' {w : World} {b off : Nat} {sp : Option Nat} {v : Value} (h : w.cell? ⟨b, off, sp⟩ = some v) : sp = none := by
  unfold World.cell? at h
  cases sp with
  | none => rfl
  | some s => cases hq : w.heap[b]? with
    | none => simp [hq] at h
    | some o => cases o <;> simp [hq] at h
theorem cells5 : Tryz.prog.cellsOf 5 = 1 := by kernel_rfl
theorem cells3 : Tryz.prog.cellsOf 3 = 1 := by kernel_rfl
theorem cells9 : Tryz.prog.cellsOf 9 = 1 := by kernel_rfl
theorem cellsB : Tryz.prog.cellsOf 34 = 1 := by kernel_rfl
theorem cellsS : Tryz.prog.cellsOf 33 = 7 := by kernel_rfl
theorem cellsA : Tryz.prog.cellsOf 36 = 14 := by kernel_rfl
theorem max_le' : maxLen ≤ 9223372036854775807 := by decide
theorem add_add (b : Addr) (i j : Nat) : (b.add i).add j = b.add (i + j) := by
  unfold Addr.add
  by_cases hi : i = 0
  · subst hi; simp
  · by_cases hj : j = 0
    · subst hj; simp [hi]
    · simp [hi, hj, Nat.add_assoc]
structure AskAt (W : World) (b o : Nat) (kd dr tq0 n : Int) (s r : ByteArray) (a0 a1 a2 a3 a4 a5 a6 : Int) (ba : Option Addr) (bn bc : Nat) : Prop where
  c0 : W.cell? ⟨b, o, none⟩ = some (I kd)
  c1 : W.cell? ⟨b, o + 1, none⟩ = some (I dr)
  c2 : W.cell? ⟨b, o + 2, none⟩ = some (I tq0)
  c3 : W.cell? ⟨b, o + 3, none⟩ = some (I n)
  c4 : W.cell? ⟨b, o + 4, none⟩ = some (.string s)
  c5 : W.cell? ⟨b, o + 5, none⟩ = some (.string r)
  c6 : W.cell? ⟨b, o + 6, none⟩ = some (I a0)
  c7 : W.cell? ⟨b, o + 7, none⟩ = some (I a1)
  c8 : W.cell? ⟨b, o + 8, none⟩ = some (I a2)
  c9 : W.cell? ⟨b, o + 9, none⟩ = some (I a3)
  c10 : W.cell? ⟨b, o + 10, none⟩ = some (I a4)
  c11 : W.cell? ⟨b, o + 11, none⟩ = some (I a5)
  c12 : W.cell? ⟨b, o + 12, none⟩ = some (I a6)
  c13 : W.cell? ⟨b, o + 13, none⟩ = some (.slice ba bn bc)
  ws : s.size ≤ 9223372036854775807
  wr : r.size ≤ 9223372036854775807
  w0 : (kl kd).wf = true
  w1 : (kl dr).wf = true
  w2 : (kl tq0).wf = true
  w3 : (kl n).wf = true
  w6 : (kl a0).wf = true
  w7 : (kl a1).wf = true
  w8 : (kl a2).wf = true
  w9 : (kl a3).wf = true
  w10 : (kl a4).wf = true
  w11 : (kl a5).wf = true
  w12 : (kl a6).wf = true
  wb : (bn ≤ bc ∧ bc ≤ 9223372036854775807) ∧ ∃ g, In W ba bn bc g
def AsksAt (W : World) (pa : Option Addr) (len : Nat) : Prop := len ≤ 9223372036854775807 ∧ ∀ i, i < len → ∃ b off kd dr tq0 n s r a0 a1 a2 a3 a4 a5 a6 ba bn bc, pa = some ⟨b, off, none⟩ ∧ b < W.heap.size ∧ AskAt W b (off + i * 14) kd dr tq0 n s r a0 a1 a2 a3 a4 a5 a6 ba bn bc
theorem AskAt.below {W W' : World} {b o : Nat} {kd dr tq0 n : Int} {s r : ByteArray} {a0 a1 a2 a3 a4 a5 a6 : Int} {ba : Option Addr} {bn bc : Nat} (h : AskAt W b o kd dr tq0 n s r a0 a1 a2 a3 a4 a5 a6 ba bn bc) (g : Below W.heap.size W W') : AskAt W' b o kd dr tq0 n s r a0 a1 a2 a3 a4 a5 a6 ba bn bc := by
  have hl := lt_of_cell h.c0
  have hs := fun i => cell_same (g.block b hl) i
  exact ⟨(hs _).trans h.c0, (hs _).trans h.c1, (hs _).trans h.c2, (hs _).trans h.c3, (hs _).trans h.c4, (hs _).trans h.c5, (hs _).trans h.c6, (hs _).trans h.c7, (hs _).trans h.c8, (hs _).trans h.c9, (hs _).trans h.c10, (hs _).trans h.c11, (hs _).trans h.c12, (hs _).trans h.c13, h.ws, h.wr, h.w0, h.w1, h.w2, h.w3, h.w6, h.w7, h.w8, h.w9, h.w10, h.w11, h.w12, h.wb.1, h.wb.2.imp fun _ k => k.below g⟩
theorem AsksAt.below {W W' : World} {pa : Option Addr} {len : Nat} (h : AsksAt W pa len) (g : Below W.heap.size W W') : AsksAt W' pa len :=
  ⟨h.1, fun i hi => by
    obtain ⟨b, off, kd, dr, tq0, n, s, r, a0, a1, a2, a3, a4, a5, a6, ba, bn, bc, h1, h2, h3⟩ := h.2 i hi
    exact ⟨b, off, kd, dr, tq0, n, s, r, a0, a1, a2, a3, a4, a5, a6, ba, bn, bc, h1, Nat.lt_of_lt_of_le h2 g.size, h3.below g⟩⟩
set_option maxRecDepth 100000 in
set_option maxHeartbeats 1000000 in
theorem asks_of {H : Type} {enc : TypeId × Value → H} {w : World} {held : Bool} {fuel : Nat} {a : Option Addr} {len cap : Nat} {x : DataW H × List MemPlace}
    (h : DataW.trod enc Tryz.prog w 0 (fun _ => true) held fuel 22 [.slice a len cap] = some x) : AsksAt w a len := by
  rcases open_slice Tryz.underlying22 h with ⟨hcs, _⟩ | ⟨y, l, c, m, n, D, Pl, hcs, _, hl, hm, hmm, _, hx⟩
  · simp at hcs
    obtain ⟨rfl, rfl, rfl⟩ := hcs
    exact ⟨Nat.zero_le _, fun i hi => absurd hi (Nat.not_lt_zero _)⟩
  · simp at hcs
    obtain ⟨rfl, rfl, rfl⟩ := hcs
    simp at hmm
    subst hmm
    have hml := max_le'
    refine ⟨by omega, fun i hi => ?_⟩
    have key : ∀ j, j ≤ i → ∃ (kd dr tq0 n : Int) (s r : ByteArray) (a0 a1 a2 a3 a4 a5 a6 : Int) (ba : Option Addr) (bn bc : Nat), w.cell? (y.add (j * 14)) = some (I kd) ∧ w.cell? (y.add (j * 14 + 1)) = some (I dr) ∧ w.cell? (y.add (j * 14 + 2)) = some (I tq0) ∧ w.cell? (y.add (j * 14 + 3)) = some (I n) ∧ w.cell? (y.add (j * 14 + 4)) = some (.string s) ∧ w.cell? (y.add (j * 14 + 5)) = some (.string r) ∧ w.cell? (y.add (j * 14 + 6)) = some (I a0) ∧ w.cell? (y.add (j * 14 + 7)) = some (I a1) ∧ w.cell? (y.add (j * 14 + 8)) = some (I a2) ∧ w.cell? (y.add (j * 14 + 9)) = some (I a3) ∧ w.cell? (y.add (j * 14 + 10)) = some (I a4) ∧ w.cell? (y.add (j * 14 + 11)) = some (I a5) ∧ w.cell? (y.add (j * 14 + 12)) = some (I a6) ∧ w.cell? (y.add (j * 14 + 13)) = some (.slice ba bn bc) ∧ s.size ≤ 9223372036854775807 ∧ r.size ≤ 9223372036854775807 ∧ (kl kd).wf = true ∧ (kl dr).wf = true ∧ (kl tq0).wf = true ∧ (kl n).wf = true ∧ (kl a0).wf = true ∧ (kl a1).wf = true ∧ (kl a2).wf = true ∧ (kl a3).wf = true ∧ (kl a4).wf = true ∧ (kl a5).wf = true ∧ (kl a6).wf = true ∧ ((bn ≤ bc ∧ bc ≤ 9223372036854775807) ∧ ∃ g, In w ba bn bc g) := by
      intro j hj
      obtain ⟨cs', h1, h2⟩ := hx j (by omega)
      rw [cellsA] at h1
      obtain ⟨_, hlen, hcell⟩ := World.cells?_some h1
      obtain ⟨xs, k, hk, hxy, _, hxl, hf⟩ := DataW.trod_struct Tryz.underlying36 h2
      match xs, hxl, cs', hlen with
      | [y0, y1, y2, y3, y4, y5, y6, y7], _, [v0, v1, v2, v3, v4, v5, v6, v7, v8, v9, v10, v11, v12, v13], _ =>
        have g0 := hf 0 _ rfl
        have g1 := hf 1 _ rfl
        have g2 := hf 2 _ rfl
        have g3 := hf 3 _ rfl
        have g4 := hf 4 _ rfl
        have g5 := hf 5 _ rfl
        have g6 := hf 6 _ rfl
        have g7 := hf 7 _ rfl
        simp [cells3, cells9, cellsS, cellsB] at g0 g1 g2 g3 g4 g5 g6 g7
        obtain ⟨n0, e0, _, m0⟩ := DataW.trod_int Tryz.underlying3 g0
        obtain ⟨n1, e1, _, m1⟩ := DataW.trod_int Tryz.underlying3 g1
        obtain ⟨n2, e2, _, m2⟩ := DataW.trod_int Tryz.underlying3 g2
        obtain ⟨n3, e3, _, m3⟩ := DataW.trod_int Tryz.underlying3 g3
        obtain ⟨t4, e4, _, m4⟩ := DataW.trod_string Tryz.underlying9 g4
        obtain ⟨t5, e5, _, m5⟩ := DataW.trod_string Tryz.underlying9 g5
        simp at e0 e1 e2 e3 e4 e5
        subst e0 e1 e2 e3 e4 e5
        obtain ⟨xs6, k6, hk6, hxy6, _, hxl6, hf6⟩ := DataW.trod_struct Tryz.underlying33 g6
        match xs6, hxl6 with
        | [z0, z1, z2, z3, z4, z5, z6], _ =>
          have j0 := hf6 0 _ rfl
          have j1 := hf6 1 _ rfl
          have j2 := hf6 2 _ rfl
          have j3 := hf6 3 _ rfl
          have j4 := hf6 4 _ rfl
          have j5 := hf6 5 _ rfl
          have j6 := hf6 6 _ rfl
          simp [cells3] at j0 j1 j2 j3 j4 j5 j6
          obtain ⟨i0, d0, _, l0⟩ := DataW.trod_int Tryz.underlying3 j0
          obtain ⟨i1, d1, _, l1⟩ := DataW.trod_int Tryz.underlying3 j1
          obtain ⟨i2, d2, _, l2⟩ := DataW.trod_int Tryz.underlying3 j2
          obtain ⟨i3, d3, _, l3⟩ := DataW.trod_int Tryz.underlying3 j3
          obtain ⟨i4, d4, _, l4⟩ := DataW.trod_int Tryz.underlying3 j4
          obtain ⟨i5, d5, _, l5⟩ := DataW.trod_int Tryz.underlying3 j5
          obtain ⟨i6, d6, _, l6⟩ := DataW.trod_int Tryz.underlying3 j6
          simp at d0 d1 d2 d3 d4 d5 d6
          subst d0 d1 d2 d3 d4 d5 d6
          have e13 : ∃ ba bn bc, v13 = .slice ba bn bc ∧ ((bn ≤ bc ∧ bc ≤ 9223372036854775807) ∧ ∃ g, In w ba bn bc g) := by
            rcases open_ints Tryz.underlying34 Tryz.underlying5 cells5 g7 with ⟨hcs, _⟩ | ⟨y, l, c, zs, hcs, _, hlc, hcm, hzl, _, hzc, _⟩
            · simp at hcs; exact ⟨none, 0, 0, hcs, ⟨by omega, by omega⟩, fun _ => 0, fun h => absurd h (by omega)⟩
            · simp at hcs
              simp at hzl
              refine ⟨_, _, _, hcs, ⟨hlc, by omega⟩, fun i => zs.getD i 0, fun h => ?_⟩
              obtain ⟨yb, yo, ys⟩ := y
              have c0 := hzc 0 (by omega)
              have e0 : (⟨yb, yo, ys⟩ : Addr).add 0 = ⟨yb, yo, ys⟩ := rfl
              rw [e0] at c0
              obtain rfl := spot_none' c0
              refine ⟨yb, yo, rfl, fun i hi => ?_, hlc⟩
              have ci := hzc i (by omega)
              rw [Addr.add_mid] at ci
              exact ci
          obtain ⟨ba, bn, bc, rfl, hby⟩ := e13
          have q0 := hcell 0 (by omega)
          have q1 := hcell 1 (by omega)
          have q2 := hcell 2 (by omega)
          have q3 := hcell 3 (by omega)
          have q4 := hcell 4 (by omega)
          have q5 := hcell 5 (by omega)
          have q6 := hcell 6 (by omega)
          have q7 := hcell 7 (by omega)
          have q8 := hcell 8 (by omega)
          have q9 := hcell 9 (by omega)
          have q10 := hcell 10 (by omega)
          have q11 := hcell 11 (by omega)
          have q12 := hcell 12 (by omega)
          have q13 := hcell 13 (by omega)
          rw [add_add] at q0 q1 q2 q3 q4 q5 q6 q7 q8 q9 q10 q11 q12 q13
          exact ⟨n0, n1, n2, n3, t4, t5, i0, i1, i2, i3, i4, i5, i6, ba, bn, bc, by simpa using q0, by simpa using q1, by simpa using q2, by simpa using q3, by simpa using q4, by simpa using q5, by simpa using q6, by simpa using q7, by simpa using q8, by simpa using q9, by simpa using q10, by simpa using q11, by simpa using q12, by simpa using q13, by omega, by omega, m0, m1, m2, m3, l0, l1, l2, l3, l4, l5, l6, hby⟩
    obtain ⟨_, _, _, _, _, _, _, _, _, _, _, _, _, _, _, _, c0, -⟩ := key 0 (by omega)
    obtain ⟨kd, dr, tq0, n, s, r, a0, a1, a2, a3, a4, a5, a6, ba, bn, bc, q0, q1, q2, q3, q4, q5, q6, q7, q8, q9, q10, q11, q12, q13, ws, wr, w0, w1, w2, w3, w6, w7, w8, w9, w10, w11, w12, wb⟩ := key i (by omega)
    obtain ⟨b, off, sp⟩ := y
    have e : (⟨b, off, sp⟩ : Addr).add (0 * 14) = ⟨b, off, sp⟩ := rfl
    rw [e] at c0
    obtain rfl := spot_none' c0
    rw [Addr.add_mid] at q0 q1 q2 q3 q4 q5 q6 q7 q8 q9 q10 q11 q12 q13
    exact ⟨b, off, kd, dr, tq0, n, s, r, a0, a1, a2, a3, a4, a5, a6, ba, bn, bc, rfl, lt_of_cell q0, ⟨q0, by simpa [Nat.add_assoc] using q1, by simpa [Nat.add_assoc] using q2, by simpa [Nat.add_assoc] using q3, by simpa [Nat.add_assoc] using q4, by simpa [Nat.add_assoc] using q5, by simpa [Nat.add_assoc] using q6, by simpa [Nat.add_assoc] using q7, by simpa [Nat.add_assoc] using q8, by simpa [Nat.add_assoc] using q9, by simpa [Nat.add_assoc] using q10, by simpa [Nat.add_assoc] using q11, by simpa [Nat.add_assoc] using q12, by simpa [Nat.add_assoc] using q13, ws, wr, w0, w1, w2, w3, w6, w7, w8, w9, w10, w11, w12, wb⟩⟩
end Go.Proofs.YtlngeaacjbdmhaaGreat

namespace Go.Proofs.YtlngeaacjbdmhaaGreat
open Go.RowKit
attribute [local go_sem ↓] Go.wp_at_zero Go.wp_at_succ
theorem within_one (v hi : Int) (h0 : 0 ≤ hi) (h1 : hi ≤ 1000) :
    ∃ r : Int, (0 ≤ r ∧ r ≤ hi) ∧ ∀ w, Calls Tryz.prog 23 #[.int .i64 v, .int .i64 0, .int .i64 hi] w fun e w' => e = .returned (I r) ∧ w' = w := by
  have t1 : v.tmod (hi + 1) < hi + 1 := Int.tmod_lt_of_pos v (by omega)
  have t2 : -(hi + 1) < v.tmod (hi + 1) := by
    have h := Int.tmod_lt_of_pos (-v) (show 0 < hi + 1 by omega)
    rw [Int.neg_tmod] at h
    omega
  have t3 : ¬ hi + 1 = 0 := by omega
  by_cases hn : v.tmod (hi + 1) < 0
  · refine ⟨v.tmod (hi + 1) + hi + 1, by omega, fun w => ?_⟩
    go_enter Tryz.func23, Tryz.ntmps23
    go_wp2
    go_ret
    exact ⟨rfl, rfl⟩
  · refine ⟨v.tmod (hi + 1), by omega, fun w => ?_⟩
    go_enter Tryz.func23, Tryz.ntmps23
    go_wp2
    go_ret
    exact ⟨rfl, rfl⟩
end Go.Proofs.YtlngeaacjbdmhaaGreat

namespace Go.Proofs.YtlngeaacjbdmhaaGreat.Bo
open Go.RowKit Bt
attribute [local go_sem ↓] Go.wp_at_zero Go.wp_at_succ
theorem Abc.small {s : ByteArray} (h : Abc s) : s.size ≤ 100000 := by
  rcases h with rfl | rfl | rfl <;> decide
set_option maxRecDepth 100000 in
set_option maxHeartbeats 4000000 in
theorem tame_walk (nodes : Int) (pa : Option Addr) (len cap : Nat) (w : World) (H : AsksAt w pa len) :
    Calls Tryz.prog 4 #[I nodes, .slice pa len cap] w fun e w' => e = .returned (.bool true) ∧ Below w.heap.size w w' := by
  obtain ⟨rr, hr, hwi⟩ := within_one nodes 15 (by omega) (by omega)
  obtain ⟨nn, hnn⟩ : ∃ nn : Nat, (nn : Int) = 1 + rr := ⟨(1 + rr).toNat, by omega⟩
  have HW := hide hwi
  have HA := hide H
  have hlen := H.1
  have HN : Hid (1 ≤ nn ∧ nn ≤ 64) := hide (by omega)
  have HT := hide (new_Q nn 8 (by omega) (by omega) w)
  have HD : Hid (∀ W, Calls Tryz.prog 17 #[I (nn : Int), I (8 : Int)] W fun e w' => ∃ r, e = .returned (.tuple #[P0 r, I 0]) ∧ Rf.Dq W.heap.size 8 w' r (Tr.new nn 8) ∧ Below W.heap.size W w') := hide fun W => Rf.dNew_any nn 8 (unhide HN) (by omega) W
  clear hwi H
  go_enter Tryz.func4, Tryz.ntmps4
  go_wp2_with fail
  refine (unhide HW _).mono ?_
  rintro e w' ⟨rfl, hw'⟩
  replace hw' := hw'.symm
  subst hw'
  go_wp2_with fail
  rw [← hnn]
  refine (unhide HT).mono ?_
  rintro e w1 ⟨t, rfl, T1, B1⟩
  go_wp2_with fail
  refine (unhide HW _).mono ?_
  rintro e w' ⟨rfl, hw'⟩
  replace hw' := hw'.symm
  subst hw'
  go_wp2_with fail
  rw [← hnn]
  refine (unhide HD _).mono ?_
  rintro e w2 ⟨r, rfl, D2, B2⟩
  have S0 : Bo t r w.heap.size w.heap.size 8 1 w w2 (Tr.new nn 8) (Tr.new nn 8) := ⟨(unhide T1).below B2, Dq_weak D2 (unhide B1).size, (unhide T1).f, L16.new _ _, (unhide B1).trans (B2.mono (unhide B1).size), Nat.le_refl _, Nat.le_refl _⟩
  have HS := hide S0
  clear S0 D2 B2 T1 B1
  go_wp2_with fail
  go_loopw [9] (fun i wr => ∃ q : Nat, q ≤ len ∧ q ≤ 80 ∧ i = .int .i64 (q : Int) ∧ Hid (∃ T, Bo t r w.heap.size w.heap.size 8 (1 + 4 * q) w wr T T)) (fun i _ => 80 - (intOf i).toNat)
  case atStart => exact ⟨0, Nat.zero_le _, Nat.zero_le _, rfl, hide ⟨_, unhide HS⟩⟩
  case round =>
    obtain ⟨q, hq, hq8, rfl, ⟨T, S1⟩⟩ := hrel
    have HB := hide S1
    by_cases hlt : q < len ∧ q < 80
    · have hl1 : (q : Int) < (len : Int) := by omega
      have hl2 : (q : Int) < 80 := by omega
      obtain ⟨b, off, kd, dr, tq, n, s, u, a0, a1, a2, a3, a4, a5, a6, ba, bn, bc, hpa, hb, hA⟩ := (unhide HA).2 q hlt.1
      have hA2 := hA
      have HWB := hide hA.wb
      have HW3 := hide hA.w3
      have hbel : ∀ i, wr.cell? ⟨b, i, none⟩ = w.cell? ⟨b, i, none⟩ := fun i => cell_same (S1.be.block b hb) i
      obtain ⟨c0, c1, c2, c3, c4, c5, c6, c7, c8, c9, c10, c11, c12, c13, -⟩ := hA2
      rw [← hbel] at c0 c1 c2 c3 c4 c5 c6 c7 c8 c9 c10 c11 c12 c13
      subst hpa
      clear S1 hbel hA
      go_wp2_with fail
      refine (tame_any kd dr tq n s u a0 a1 a2 a3 a4 a5 a6 ba bn bc wr).mono ?_
      rintro e w3 ⟨⟨d, m, k, s', r', hd, hmm, hk, hs', hr', rfl⟩, B3⟩
      have HB3 := hide B3
      obtain ⟨V, hV⟩ : ∃ V, w3.alloc (.cells #[I kd, I (1 + (d : Int)), I (1 + (m : Int)), I n, .string s', .string r', I a0, I (1 + (k : Int)), I a2, I a3, I a4, I a5, I a6, .slice ba bn bc] 36) = V := ⟨_, rfl⟩
      have hc := heap_alloc_new w3 (Obj.cells #[I kd, I (1 + (d : Int)), I (1 + (m : Int)), I n, .string s', .string r', I a0, I (1 + (k : Int)), I a2, I a3, I a4, I a5, I a6, .slice ba bn bc] 36)
      have bV : Below wr.heap.size wr V := hV ▸ B3.alloc B3.size _
      rw [hV] at hc
      obtain ⟨y, hy⟩ : ∃ y, w3.heap.size = y := ⟨_, rfl⟩
      have hyw : wr.heap.size ≤ y := hy ▸ B3.size
      rw [hy] at hc
      have HC := hide hc
      have HBV := hide bV
      obtain ⟨e0, e1, e2, e3, e4, e5, e6, e7, e8, e9, e10, e11, e12, e13, ef⟩ := cells14 hc
      obtain ⟨g, hg⟩ := (unhide HWB).2
      have HG := hide hg
      clear B3 bV hc hg c0 c1 c2 c3 c4 c5 c6 c7 c8 c9 c10 c11 c12 c13
      by_cases hkd : kd = 1
      · subst hkd
        obtain ⟨V2, hV2⟩ : ∃ V2, V.setCell ⟨y, 5, none⟩ (.string ⟨#[]⟩) = V2 := ⟨_, rfl⟩
        have hc2 := heap_set (unhide HC) 5 (.string ⟨#[]⟩)
        simp only [List.setIfInBounds_toArray, List.set_cons_succ, List.set_cons_zero] at hc2
        rw [hV2] at hc2
        obtain ⟨f0, f1, f2, f3, f4, f5, f6, f7, f8, f9, f10, f11, f12, f13, ff⟩ := cells14 hc2
        have b2 : Below wr.heap.size wr V2 := hV2 ▸ (unhide HBV).setCell (p := ⟨y, 5, none⟩) hyw _
        have HO := hide (one_any (x := ⟨1, 1 + (d : Int), 1 + (m : Int), n, s', ⟨#[]⟩, a0, 1 + (k : Int), a2, a3, a4, a5, a6, ba, bn, bc⟩) ((unhide HB).below b2) (by omega) ⟨wf_of (by simp only; omega), wf_of (by simp only; omega), unhide HW3, Abc.small hs', show (⟨#[]⟩ : ByteArray).size ≤ 100000 by decide⟩ (unhide HWB).1 (unhide HG))
        clear hc2 b2
        go_wp2_with fail
        refine (unhide HO).mono ?_
        rintro e w4 ⟨rfl, O4⟩
        obtain ⟨T4, S4, _⟩ := unhide O4
        have HS4 := hide S4
        clear S4 O4
        go_wp2_with fail
        exact ⟨⟨q + 1, by omega, by omega, by go_num, hide ⟨T4, (unhide HS4).mono (by omega)⟩⟩, by simp [intOf]; omega⟩
      · have HO := hide (one_any (x := ⟨kd, 1 + (d : Int), 1 + (m : Int), n, s', r', a0, 1 + (k : Int), a2, a3, a4, a5, a6, ba, bn, bc⟩) ((unhide HB).below (unhide HBV)) (by omega) ⟨wf_of (by simp only; omega), wf_of (by simp only; omega), unhide HW3, Abc.small hs', Abc.small hr'⟩ (unhide HWB).1 (unhide HG))
        go_wp2_with fail
        refine (unhide HO).mono ?_
        rintro e w4 ⟨rfl, O4⟩
        obtain ⟨T4, S4, _⟩ := unhide O4
        have HS4 := hide S4
        clear S4 O4
        go_wp2_with fail
        exact ⟨⟨q + 1, by omega, by omega, by go_num, hide ⟨T4, (unhide HS4).mono (by omega)⟩⟩, by simp [intOf]; omega⟩
    · have HK := hide (alike_any (unhide HB) (by omega) 80 (by omega))
      have hkn := hide known_any
      clear S1
      by_cases hql : q = len
      · subst hql
        go_wp2_with fail
        refine (unhide HK).mono ?_
        rintro e w5 ⟨rfl, B5⟩
        have HB5 := hide B5
        clear B5
        go_wp2_with fail
        refine (unhide hkn _).mono ?_
        rintro e w6 ⟨rfl, B6⟩
        have HB6 := hide B6
        clear B6
        go_wp2_with fail
        go_ret
        exact ⟨rfl, (unhide HB).be.trans (((unhide HB5).trans ((unhide HB6).mono (unhide HB5).size)).mono (unhide HB).be.size)⟩
      · obtain rfl : q = 80 := by omega
        have h80 : (80 : Int) < (len : Int) := by omega
        go_wp2_with fail
        refine (unhide HK).mono ?_
        rintro e w5 ⟨rfl, B5⟩
        have HB5 := hide B5
        clear B5
        go_wp2_with fail
        refine (unhide hkn _).mono ?_
        rintro e w6 ⟨rfl, B6⟩
        have HB6 := hide B6
        clear B6
        go_wp2_with fail
        go_ret
        exact ⟨rfl, (unhide HB).be.trans (((unhide HB5).trans ((unhide HB6).mono (unhide HB5).size)).mono (unhide HB).be.size)⟩
end Go.Proofs.YtlngeaacjbdmhaaGreat.Bo

namespace Go.Proofs.YtlngeaacjbdmhaaGreat.gr
open Go
theorem p1 : laidOutB Tryz.pinned.checked.prog = true := by kernel_rfl
theorem p2 : mapsRowed Tryz.pinned.checked.prog = true := by kernel_rfl
theorem p3 : (Tryz.pinned.checked.prog.stops == []) = true := by kernel_rfl
theorem p4 : (Tryz.pinned.checked.prog.stopKnobs == []) = true := by kernel_rfl
theorem p5 : Tryz.pinned.checked.prog.stopsHeard = true := by kernel_rfl
theorem p6 : Tryz.pinned.checked.prog.mayEnter = true := by kernel_rfl
theorem a2 {a b : Bool} (h : a = true) (g : b = true) : (a && b) = true := by rw [h, g]; rfl
theorem joined_of {P : Program} {f : FuncId} {fn : Func} {s : ChangeSpec} {c : OpenClaim}
    (h1 : c.wf (OpenSpec.ofChange s) = true) (h2 : laidOutB P = true) (h3 : mapsRowed P = true) (h4 : fn.params.all (P.readableRec ·) = true) (h5 : namedTie P c.named s.vars = true)
    (h6 : (c.stops == []) = true) (h7 : (P.stops == []) = true) (h8 : (c.knobs == []) = true) (h9 : (P.stopKnobs == []) = true)
    (h10 : (c.inPlace == P.inPlace f) = true) (h11 : (c.unfollowed == P.unfollowed f) = true) (h12 : (c.recurses == P.recurses f) = true) (h13 : (c.named == P.varsNamed f) = true)
    (h14 : (c.maps == (fn.params.toList ++ s.plain.varTypes P).any (P.mapsRec ·)) = true) (h15 : (c.ifaces == (fn.params.toList ++ s.plain.varTypes P).any (P.ifacesRec ·)) = true) (h16 : (c.mapsOut == P.mapsAmong fn.resultTypes.toList) = true)
    (h17 : (c.loops == (fn.params.toList ++ s.plain.varTypes P).any (P.loopsFrom ·)) = true) (h18 : (c.wideKeys == (fn.params.toList ++ s.plain.varTypes P ++ fn.resultTypes.toList).any (P.wideKeysFrom ·)) = true)
    (h19 : s.vars.all (P.varReadable ·) = true) (h20 : fn.resultTypes.all (fun t => P.readableRec t && decide (t < P.types.size)) = true) (h21 : (c.ifacesOut == fn.resultTypes.toList.any (P.ifacesRec ·)) = true) (h22 : (c.loopsOut == fn.resultTypes.toList.any (P.loopsFrom ·)) = true)
    (h23 : (c.plainKeys == P.plainKeys) = true) (h24 : c.shortTexts.isNone = true) (h25 : P.stopsHeard = true) (h26 : P.mayEnter = true) (h27 : (c.lifted == P.liftsFinal) = true) (h28 : (P.make == some c.make) = true)
    (h29 : (c.kinds == (if c.domain.isEmpty then [] else fn.params.toList.map fun t => match P.underlying t with | some (.int k) => some k | _ => none)) = true) (h30 : (c.pinned == c.pinnedBy) = true)
    (h31 : (c.veiled == (fn.params.toList ++ s.plain.varTypes P ++ fn.resultTypes.toList).any (P.veiledRec ·)) = true) (h32 : c.veiledFits P fn.params.toList (fn.params.toList ++ s.plain.varTypes P ++ fn.resultTypes.toList) = true) : joinedFacts P f fn s c = true := by
  unfold joinedFacts
  exact a2 (a2 (a2 (a2 (a2 (a2 (a2 (a2 (a2 (a2 (a2 (a2 (a2 (a2 (a2 (a2 (a2 (a2 (a2 (a2 (a2 (a2 (a2 (a2 (a2 (a2 (a2 (a2 (a2 (a2 (a2 h1 h2) h3) h4) h5) h6) h7) h8) h9) h10) h11) h12) h13) h14) h15) h16) h17) h18) h19) h20) h21) h22) h23) h24) h25) h26) h27) h28) h29) h30) h31) h32
end Go.Proofs.YtlngeaacjbdmhaaGreat.gr
