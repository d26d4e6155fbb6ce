/-
  Within of both trees, and the documents' New refused.
-/
import Derived.Test.YtlngeaacjbdmhaaGreatQp37
import Derived.Test.YtlngeaacjbdmhaaGreatQp13
import Derived.Test.YtlngeaacjbdmhaaGreatQp24
import Derived.Test.YtlngeaacjbdmhaaGreatQp23
import Derived.Test.YtlngeaacjbdmhaaGreatQp10
import Derived.Test.YtlngeaacjbdmhaaGreatQp33
import Derived.ProofKit
import Derived.Deep.Slices
import Derived.SliceStrings
import Derived.SizedLaws
import Derived.Deep.RegionHeld3
import Derived.Test.YtlngeaacjbdmhaaGreatRows
import Derived.OpenShut
import Derived.ChangeOld
namespace Go.Proofs.YtlngeaacjbdmhaaGreat.Rf
open Go.RowKit Bt
attribute [local go_sem ↓] Go.wp_at_zero Go.wp_at_succ
theorem ab_dir {T : Tr} {B : Nat} (hw : Wf B T) : ∀ {l : List Int} {c : Int}, (∃ z, T.dir c = some z) → Ab T c l → ∀ u ∈ l, ∃ y, T.dir u = some y
  | [], _, _, _, u, hu => absurd hu (by simp)
  | v :: l, c, ⟨z, hz⟩, h, u, hu => by
    obtain ⟨h1, h2, h3, h4⟩ := h
    obtain ⟨-, y, hy⟩ := up_dir hw hz
    rw [h1] at hy
    rcases List.mem_cons.1 hu with rfl | hu
    · exact ⟨y, hy⟩
    · exact ab_dir hw ⟨y, hy⟩ h4 u hu
theorem ab_none {T : Tr} {c : Int} (h : T.dir c = none) : ∀ {l : List Int}, Ab T c l → l = []
  | [], _ => rfl
  | v :: l, hl => by
    obtain ⟨h1, h2, -, -⟩ := hl
    rw [Tr.up, h] at h1
    exact absurd h1.symm h2
section
variable {lo N : Nat} {W W' : World} {r : Nat} {T : Tr} {p : Nat} {Lv : Value} {nb : Int → Nat} {ev : Int → Value} {uv : Int → Int} {B : Nat}
set_option maxRecDepth 100000 in
theorem within_no (h : DtI lo N W r T p Lv nb ev uv) (hw : Wf B T) (hB : B ≤ 890) (c n : Int) (ht : (kl c).wf = true) (hn : (kl n).wf = true) (hno : T.dir c = none ∨ T.dir n = none) :
    Calls Tryz.prog 21 #[P0 r, I c, I n] W fun e w' => e = .returned (.bool false) ∧ w' = W := by
  cases hx : T.dir c with
  | none =>
    have HD1 := hide (dir_any h hw.k (by omega) c ht (.pointer none) (by rw [dirV, hx]))
    clear h hw hno hx
    go_enter Tryz.func21, Tryz.ntmps21
    go_wp2_with fail
    refine (unhide HD1).mono ?_
    rintro e w1 ⟨rfl, hw1⟩
    rw [hw1]
    clear hw1
    go_wp2_with fail
    go_ret
    exact ⟨rfl, rfl⟩
  | some x =>
    have hy : T.dir n = none := hno.resolve_left (by rw [hx]; simp)
    have HD1 := hide (dir_any h hw.k (by omega) c ht (P0 (nb c)) (by rw [dirV, hx]))
    have HD2 := hide (dir_any h hw.k (by omega) n hn (.pointer none) (by rw [dirV, hy]))
    clear h hw hno hx hy
    generalize nb c = b at *
    go_enter Tryz.func21, Tryz.ntmps21
    go_wp2_with fail
    refine (unhide HD1).mono ?_
    rintro e w1 ⟨rfl, hw1⟩
    rw [hw1]
    clear hw1
    go_wp2_with fail
    refine (unhide HD2).mono ?_
    rintro e w1 ⟨rfl, hw1⟩
    rw [hw1]
    clear hw1
    go_wp2_with fail
    go_ret
    exact ⟨rfl, rfl⟩
end
theorem dNew_no (nodes blocks : Int) (h : nodes < 1 ∨ 64 < nodes ∨ blocks < 0 ∨ 256 < blocks) (w : World) :
    Calls Tryz.prog 17 #[I nodes, I blocks] w fun e w' => e = .returned (.tuple #[.pointer none, I 1]) ∧ w' = w := by
  by_cases h1 : nodes < 1
  · go_enter Tryz.func17, Tryz.ntmps17
    go_wp2_with fail
    go_ret2
    exact ⟨rfl, rfl⟩
  by_cases h2 : 64 < nodes
  · go_enter Tryz.func17, Tryz.ntmps17
    go_wp2_with fail
    go_ret2
    exact ⟨rfl, rfl⟩
  by_cases h3 : blocks < 0
  · go_enter Tryz.func17, Tryz.ntmps17
    go_wp2_with fail
    go_ret2
    exact ⟨rfl, rfl⟩
  have h4 : 256 < blocks := by omega
  go_enter Tryz.func17, Tryz.ntmps17
  go_wp2_with fail
  go_ret2
  exact ⟨rfl, rfl⟩
end Go.Proofs.YtlngeaacjbdmhaaGreat.Rf
namespace Go.Proofs.YtlngeaacjbdmhaaGreat.Bo
open Go.RowKit Bt
section
variable {t r l0 l1 N B : Nat} {w W : World} {T : Tr}
theorem tWithin_o (S : Bo t r l0 l1 N B w W T T) (hB : B ≤ 850) {n : Int} (hn : (kl n).wf = true) (dir : Int) {ls : List Int} (hl : Ab T n ls) (f : Bool) (hf : decide (dir ∈ ls) = f) :
    Calls Tryz.prog 20 #[P0 t, I n, I dir] W fun e w' => e = .returned (.bool f) ∧ Below W.heap.size W w' := by
  subst hf
  obtain ⟨⟨q, p, nb, ev, h⟩, hf⟩ := S.q
  exact twithin_any h hf.k (by omega) hn hl
theorem dWithin_o (S : Bo t r l0 l1 N B w W T T) (hB : B ≤ 850) {n dir : Int} (hn : (kl n).wf = true) (hd : (kl dir).wf = true) {ls : List Int} (hl : Ab T n ls) (f : Bool) (hf : decide (dir ∈ ls) = f) :
    Calls Tryz.prog 21 #[P0 r, I n, I dir] W fun e w' => e = .returned (.bool f) ∧ w' = W := by
  subst hf
  obtain ⟨p, Lv, nb, ev, uv, h, hu⟩ := S.d
  cases hx : T.dir n with
  | none =>
    have e := Rf.ab_none hx hl
    subst e
    exact Rf.within_no h S.f (by omega) n dir hn hd (.inl hx)
  | some x =>
    cases hy : T.dir dir with
    | none =>
      have e : decide (dir ∈ ls) = false := by
        rw [decide_eq_false_iff_not]
        intro hm
        obtain ⟨y, hy2⟩ := Rf.ab_dir S.f ⟨x, hx⟩ hl dir hm
        rw [hy] at hy2
        cases hy2
      rw [e]
      exact Rf.within_no h S.f (by omega) n dir hn hd (.inr hy)
    | some y => exact Rf.within_any h hu S.f (by omega) n dir hn hd x y hx hy ls hl _ rfl
end
end Go.Proofs.YtlngeaacjbdmhaaGreat.Bo

namespace Go.Proofs.YtlngeaacjbdmhaaGreat
open Go.RowKit Go.Maps
abbrev tA : ByteArray := ⟨#[97]⟩
abbrev tB : ByteArray := ⟨#[98]⟩
def K1 : Tr := (Tr.new 2 0).make 1 tA 1 0 0 0 ⟨#[]⟩
def K3 : Tr := K1.hold 2
def K4 : Tr := K3.part 1 tA
theorem kA : (Tr.new 2 0).makeN 1 tA 1 ⟨#[]⟩ = 2 ∧ (Tr.new 2 0).makeE 1 tA 1 ⟨#[]⟩ = 0 := by decide +kernel
theorem kB : K1.makeN 1 tB 1 ⟨#[]⟩ = 0 ∧ K1.makeE 1 tB 1 ⟨#[]⟩ = 43 := by decide +kernel
theorem kB2 : K1.make 1 tB 1 0 0 0 ⟨#[]⟩ = K1 := by rw [Tr.make, if_neg (by rw [kB.2]; decide)]
theorem kC : K1.holdE 2 = 0 ∧ K3.partE 1 tA = 0 ∧ (K4.findN 1 tA).getD 0 = 0 ∧ (K4.findN 1 tA).isSome = false ∧ (K4.nd 2).isSome = true := by decide +kernel
theorem known_facts : ∃ k1 k3 k4 : Tr, ((Tr.new 2 0).makeN 1 tA 1 ⟨#[]⟩ = 2 ∧ (Tr.new 2 0).makeE 1 tA 1 ⟨#[]⟩ = 0 ∧ (Tr.new 2 0).make 1 tA 1 0 0 0 ⟨#[]⟩ = k1) ∧ (k1.makeN 1 tB 1 ⟨#[]⟩ = 0 ∧ k1.makeE 1 tB 1 ⟨#[]⟩ = 43 ∧ k1.make 1 tB 1 0 0 0 ⟨#[]⟩ = k1) ∧ (k1.holdE 2 = 0 ∧ k1.hold 2 = k3) ∧ (k3.partE 1 tA = 0 ∧ k3.part 1 tA = k4) ∧ ((k4.findN 1 tA).getD 0 = 0 ∧ (k4.findN 1 tA).isSome = false) ∧ (k4.nd 2).isSome = true :=
  ⟨K1, K3, K4, ⟨kA.1, kA.2, rfl⟩, ⟨kB.1, kB.2, kB2⟩, ⟨kC.1, rfl⟩, ⟨kC.2.1, rfl⟩, ⟨kC.2.2.1, kC.2.2.2.1⟩, kC.2.2.2.2⟩
set_option maxRecDepth 100000 in
set_option maxHeartbeats 1000000 in
theorem known_any (w : World) : Calls Tryz.prog 18 #[] w fun e w' => e = .returned (.bool true) ∧ Below w.heap.size w w' := by
  obtain ⟨k1, k3, k4, FA, FB, FC, FD, FE, FF⟩ := known_facts
  obtain ⟨s0, s1, s2, s3, s4, s5, s6, hv2⟩ := k4.stat_form 2
  have HV := hide hv2
  have HA := hide FA
  have HBB := hide FB
  have HC := hide FC
  have HD := hide FD
  have HE := hide FE
  have HF := hide FF
  have H0 := hide (new_Q 2 0 (by omega) (by omega) w)
  have hw1 : Hid ((kl 1).wf = true) := hide (by decide)
  have hw2 : Hid ((kl 2).wf = true) := hide (by decide)
  clear hv2 FA FB FC FD FE FF
  go_enter Tryz.func18, Tryz.ntmps18
  go_wp2_with fail
  refine (unhide H0).mono ?_
  rintro e w1 ⟨t, rfl, T1, B1⟩
  go_wp2_with fail
  refine (make_Q (unhide T1) (by omega) (unhide hw1) tA 0 1 0 0 0 0 0 ⟨#[]⟩ (by decide) 2 0 k1 (unhide HA).1 (unhide HA).2.1 (unhide HA).2.2).mono ?_
  rintro e w2 ⟨rfl, T2, X2⟩
  go_wp2_with fail
  refine (make_Q (unhide T2) (by omega) (unhide hw1) tB 0 1 0 0 0 0 0 ⟨#[]⟩ (by decide) 0 43 k1 (unhide HBB).1 (unhide HBB).2.1 (unhide HBB).2.2).mono ?_
  rintro e w3 ⟨rfl, T3, X3⟩
  go_wp2_with fail
  refine (hold_Q (unhide T3) (by omega) (unhide hw2) 0 k3 (unhide HC).1 (unhide HC).2).mono ?_
  rintro e w4 ⟨rfl, T4, X4⟩
  go_wp2_with fail
  refine (part_Q (unhide T4) (by omega) (unhide hw1) tA 0 k4 (unhide HD).1 (unhide HD).2).mono ?_
  rintro e w5 ⟨rfl, T5, X5⟩
  go_wp2_with fail
  refine (find_Q (unhide T5) (by omega) (unhide hw1) tA 0 false (unhide HE).1 (unhide HE).2).mono ?_
  rintro e w6 ⟨rfl, T6, X6⟩
  go_wp2_with fail
  refine (stat_Q (unhide T6) (by omega) (unhide hw2) (stV s0 s1 s2 s3 s4 s5 s6) true (unhide HV) (unhide HF)).mono ?_
  rintro e w7 ⟨rfl, T7, X7⟩
  go_wp2_with fail
  go_ret
  have hle := (unhide B1).size
  have hX := (((unhide X2).trans (unhide X3)).trans ((unhide X4).trans (unhide X5))).trans ((Tx.of_below (unhide X6) (unhide T5).lo_le).trans (Tx.of_below (unhide X7) (unhide T6).lo_le))
  have hF := hX.fst (unhide B1) (Nat.le_refl _)
  exact ⟨rfl, hF.alloc hF.size _⟩
end Go.Proofs.YtlngeaacjbdmhaaGreat

namespace Go.Proofs.YtlngeaacjbdmhaaGreat
open Go.RowKit Go.Maps
set_option maxHeartbeats 400000 in
theorem within_any (v hi : Int) (w : World) (h0 : 0 ≤ hi) (h1 : hi ≤ 1000) :
    Calls Tryz.prog 23 #[.int .i64 v, .int .i64 0, .int .i64 hi] w fun e w' => (∃ r : Nat, (r : Int) ≤ hi ∧ e = .returned (I (r : Int))) ∧ w' = w := by
  have t1 : v.tmod (hi + 1) < hi + 1 := Int.tmod_lt_of_pos v (by omega)
  have t2 : -(hi + 1) < v.tmod (hi + 1) := by
    have h := Int.tmod_lt_of_pos (-v) (show 0 < hi + 1 by omega)
    rw [Int.neg_tmod] at h
    omega
  have t3 : ¬ hi + 1 = 0 := by omega
  by_cases hn : v.tmod (hi + 1) < 0
  · go_enter Tryz.func23, Tryz.ntmps23
    go_wp2
    go_ret
    refine ⟨⟨(v.tmod (hi + 1) + hi + 1).toNat, by omega, ?_⟩, rfl⟩
    rw [Int.toNat_of_nonneg (by omega)]
    rfl
  · go_enter Tryz.func23, Tryz.ntmps23
    go_wp2
    go_ret
    refine ⟨⟨(v.tmod (hi + 1)).toNat, by omega, ?_⟩, rfl⟩
    rw [Int.toNat_of_nonneg (by omega)]
    rfl
end Go.Proofs.YtlngeaacjbdmhaaGreat

namespace Go.Proofs.YtlngeaacjbdmhaaGreat
open Go.RowKit Go.Maps
structure TA (w W : World) (p : Nat) (A : Array Value) : Prop where
  x : W.heap[p]? = some (.cells A 36)
  z : W.heap[p + 1]? = some (.cells #[Value.int IntKind.i64 0, Value.int IntKind.i64 0, Value.int IntKind.i64 0, Value.int IntKind.i64 0, Value.string { data := #[] }, Value.string { data := #[] }, Value.int IntKind.i64 0, Value.int IntKind.i64 0, Value.int IntKind.i64 0, Value.int IntKind.i64 0, Value.int IntKind.i64 0, Value.int IntKind.i64 0, Value.int IntKind.i64 0, Value.slice none 0 0] 36)
  b : Below p w W
theorem TA.set {w W : World} {p : Nat} {A : Array Value} (h : TA w W p A) (i : Nat) (v : Value) : TA w (W.setCell ⟨p, i, none⟩ v) p (A.setIfInBounds i v) :=
  ⟨by rw [heap_set h.x], (Below.heap_setCell _ _ _ _ (by simp)).trans h.z, h.b.setCell (p := ⟨p, i, none⟩) (by simp) v⟩
theorem TA.alloc {w W : World} {p : Nat} {A : Array Value} (h : TA w W p A) (o : Obj) : TA w (W.alloc o) p A :=
  ⟨(Below.heap_alloc _ _ _ (lt_of_heap h.x)).trans h.x, (Below.heap_alloc _ _ _ (lt_of_heap h.z)).trans h.z, h.b.alloc (Nat.le_of_lt (lt_of_heap h.x)) o⟩
theorem TA.drew {w W : World} {p : Nat} {A : Array Value} (h : TA w W p A) (k : Nat) : TA w (W.drewN k) p A := ⟨h.x, h.z, below_dn h.b k⟩
end Go.Proofs.YtlngeaacjbdmhaaGreat

namespace Go.Proofs.YtlngeaacjbdmhaaGreat
open Go.ChangeShapes Go.WideShapes Go.ChangeAt Go.RowKit Go.Deep
theorem spot_none' {w : World} {b off : Nat} {sp : Option Nat} {v : Value} (h : w.cell? ⟨b, off, sp⟩ = some v) : sp = none := by
  unfold World.cell? at h
  cases sp with
  | none => rfl
  | some s => cases hq : w.heap[b]? with
    | none => simp [hq] at h
    | some o => cases o <;> simp [hq] at h
theorem cells5 : Tryz.prog.cellsOf 5 = 1 := by kernel_rfl
theorem cells3 : Tryz.prog.cellsOf 3 = 1 := by kernel_rfl
theorem cells9 : Tryz.prog.cellsOf 9 = 1 := by kernel_rfl
theorem cellsB : Tryz.prog.cellsOf 34 = 1 := by kernel_rfl
theorem cellsS : Tryz.prog.cellsOf 33 = 7 := by kernel_rfl
theorem cellsA : Tryz.prog.cellsOf 36 = 14 := by kernel_rfl
theorem max_le' : maxLen ≤ 9223372036854775807 := by decide
theorem add_add (b : Addr) (i j : Nat) : (b.add i).add j = b.add (i + j) := by
  unfold Addr.add
  by_cases hi : i = 0
  · subst hi; simp
  · by_cases hj : j = 0
    · subst hj; simp [hi]
    · simp [hi, hj, Nat.add_assoc]
structure AskAt (W : World) (b o : Nat) (kd dr tq0 n : Int) (s r : ByteArray) (a0 a1 a2 a3 a4 a5 a6 : Int) (ba : Option Addr) (bn bc : Nat) : Prop where
  c0 : W.cell? ⟨b, o, none⟩ = some (I kd)
  c1 : W.cell? ⟨b, o + 1, none⟩ = some (I dr)
  c2 : W.cell? ⟨b, o + 2, none⟩ = some (I tq0)
  c3 : W.cell? ⟨b, o + 3, none⟩ = some (I n)
  c4 : W.cell? ⟨b, o + 4, none⟩ = some (.string s)
  c5 : W.cell? ⟨b, o + 5, none⟩ = some (.string r)
  c6 : W.cell? ⟨b, o + 6, none⟩ = some (I a0)
  c7 : W.cell? ⟨b, o + 7, none⟩ = some (I a1)
  c8 : W.cell? ⟨b, o + 8, none⟩ = some (I a2)
  c9 : W.cell? ⟨b, o + 9, none⟩ = some (I a3)
  c10 : W.cell? ⟨b, o + 10, none⟩ = some (I a4)
  c11 : W.cell? ⟨b, o + 11, none⟩ = some (I a5)
  c12 : W.cell? ⟨b, o + 12, none⟩ = some (I a6)
  c13 : W.cell? ⟨b, o + 13, none⟩ = some (.slice ba bn bc)
  ws : s.size ≤ 9223372036854775807
  wr : r.size ≤ 9223372036854775807
  w0 : (kl kd).wf = true
  w1 : (kl dr).wf = true
  w2 : (kl tq0).wf = true
  w3 : (kl n).wf = true
  w6 : (kl a0).wf = true
  w7 : (kl a1).wf = true
  w8 : (kl a2).wf = true
  w9 : (kl a3).wf = true
  w10 : (kl a4).wf = true
  w11 : (kl a5).wf = true
  w12 : (kl a6).wf = true
  wb : (bn ≤ bc ∧ bc ≤ 9223372036854775807) ∧ ∃ g, In W ba bn bc g
def AsksAt (W : World) (pa : Option Addr) (len : Nat) : Prop := len ≤ 9223372036854775807 ∧ ∀ i, i < len → ∃ b off kd dr tq0 n s r a0 a1 a2 a3 a4 a5 a6 ba bn bc, pa = some ⟨b, off, none⟩ ∧ b < W.heap.size ∧ AskAt W b (off + i * 14) kd dr tq0 n s r a0 a1 a2 a3 a4 a5 a6 ba bn bc
theorem AskAt.below {W W' : World} {b o : Nat} {kd dr tq0 n : Int} {s r : ByteArray} {a0 a1 a2 a3 a4 a5 a6 : Int} {ba : Option Addr} {bn bc : Nat} (h : AskAt W b o kd dr tq0 n s r a0 a1 a2 a3 a4 a5 a6 ba bn bc) (g : Below W.heap.size W W') : AskAt W' b o kd dr tq0 n s r a0 a1 a2 a3 a4 a5 a6 ba bn bc := by
  have hl := lt_of_cell h.c0
  have hs := fun i => cell_same (g.block b hl) i
  exact ⟨(hs _).trans h.c0, (hs _).trans h.c1, (hs _).trans h.c2, (hs _).trans h.c3, (hs _).trans h.c4, (hs _).trans h.c5, (hs _).trans h.c6, (hs _).trans h.c7, (hs _).trans h.c8, (hs _).trans h.c9, (hs _).trans h.c10, (hs _).trans h.c11, (hs _).trans h.c12, (hs _).trans h.c13, h.ws, h.wr, h.w0, h.w1, h.w2, h.w3, h.w6, h.w7, h.w8, h.w9, h.w10, h.w11, h.w12, h.wb.1, h.wb.2.imp fun _ k => k.below g⟩
theorem AsksAt.below {W W' : World} {pa : Option Addr} {len : Nat} (h : AsksAt W pa len) (g : Below W.heap.size W W') : AsksAt W' pa len :=
  ⟨h.1, fun i hi => by
    obtain ⟨b, off, kd, dr, tq0, n, s, r, a0, a1, a2, a3, a4, a5, a6, ba, bn, bc, h1, h2, h3⟩ := h.2 i hi
    exact ⟨b, off, kd, dr, tq0, n, s, r, a0, a1, a2, a3, a4, a5, a6, ba, bn, bc, h1, Nat.lt_of_lt_of_le h2 g.size, h3.below g⟩⟩
set_option maxRecDepth 100000 in
set_option maxHeartbeats 1000000 in
theorem asks_of {H : Type} {enc : TypeId × Value → H} {w : World} {held : Bool} {fuel : Nat} {a : Option Addr} {len cap : Nat} {x : DataW H × List MemPlace}
    (h : DataW.trod enc Tryz.prog w 0 (fun _ => true) held fuel 22 [.slice a len cap] = some x) : AsksAt w a len := by
  rcases open_slice Tryz.underlying22 h with ⟨hcs, _⟩ | ⟨y, l, c, m, n, D, Pl, hcs, _, hl, hm, hmm, _, hx⟩
  · simp at hcs
    obtain ⟨rfl, rfl, rfl⟩ := hcs
    exact ⟨Nat.zero_le _, fun i hi => absurd hi (Nat.not_lt_zero _)⟩
  · simp at hcs
    obtain ⟨rfl, rfl, rfl⟩ := hcs
    simp at hmm
    subst hmm
    have hml := max_le'
    refine ⟨by omega, fun i hi => ?_⟩
    have key : ∀ j, j ≤ i → ∃ (kd dr tq0 n : Int) (s r : ByteArray) (a0 a1 a2 a3 a4 a5 a6 : Int) (ba : Option Addr) (bn bc : Nat), w.cell? (y.add (j * 14)) = some (I kd) ∧ w.cell? (y.add (j * 14 + 1)) = some (I dr) ∧ w.cell? (y.add (j * 14 + 2)) = some (I tq0) ∧ w.cell? (y.add (j * 14 + 3)) = some (I n) ∧ w.cell? (y.add (j * 14 + 4)) = some (.string s) ∧ w.cell? (y.add (j * 14 + 5)) = some (.string r) ∧ w.cell? (y.add (j * 14 + 6)) = some (I a0) ∧ w.cell? (y.add (j * 14 + 7)) = some (I a1) ∧ w.cell? (y.add (j * 14 + 8)) = some (I a2) ∧ w.cell? (y.add (j * 14 + 9)) = some (I a3) ∧ w.cell? (y.add (j * 14 + 10)) = some (I a4) ∧ w.cell? (y.add (j * 14 + 11)) = some (I a5) ∧ w.cell? (y.add (j * 14 + 12)) = some (I a6) ∧ w.cell? (y.add (j * 14 + 13)) = some (.slice ba bn bc) ∧ s.size ≤ 9223372036854775807 ∧ r.size ≤ 9223372036854775807 ∧ (kl kd).wf = true ∧ (kl dr).wf = true ∧ (kl tq0).wf = true ∧ (kl n).wf = true ∧ (kl a0).wf = true ∧ (kl a1).wf = true ∧ (kl a2).wf = true ∧ (kl a3).wf = true ∧ (kl a4).wf = true ∧ (kl a5).wf = true ∧ (kl a6).wf = true ∧ ((bn ≤ bc ∧ bc ≤ 9223372036854775807) ∧ ∃ g, In w ba bn bc g) := by
      intro j hj
      obtain ⟨cs', h1, h2⟩ := hx j (by omega)
      rw [cellsA] at h1
      obtain ⟨_, hlen, hcell⟩ := World.cells?_some h1
      obtain ⟨xs, k, hk, hxy, _, hxl, hf⟩ := DataW.trod_struct Tryz.underlying36 h2
      match xs, hxl, cs', hlen with
      | [y0, y1, y2, y3, y4, y5, y6, y7], _, [v0, v1, v2, v3, v4, v5, v6, v7, v8, v9, v10, v11, v12, v13], _ =>
        have g0 := hf 0 _ rfl
        have g1 := hf 1 _ rfl
        have g2 := hf 2 _ rfl
        have g3 := hf 3 _ rfl
        have g4 := hf 4 _ rfl
        have g5 := hf 5 _ rfl
        have g6 := hf 6 _ rfl
        have g7 := hf 7 _ rfl
        simp [cells3, cells9, cellsS, cellsB] at g0 g1 g2 g3 g4 g5 g6 g7
        obtain ⟨n0, e0, _, m0⟩ := DataW.trod_int Tryz.underlying3 g0
        obtain ⟨n1, e1, _, m1⟩ := DataW.trod_int Tryz.underlying3 g1
        obtain ⟨n2, e2, _, m2⟩ := DataW.trod_int Tryz.underlying3 g2
        obtain ⟨n3, e3, _, m3⟩ := DataW.trod_int Tryz.underlying3 g3
        obtain ⟨t4, e4, _, m4⟩ := DataW.trod_string Tryz.underlying9 g4
        obtain ⟨t5, e5, _, m5⟩ := DataW.trod_string Tryz.underlying9 g5
        simp at e0 e1 e2 e3 e4 e5
        subst e0 e1 e2 e3 e4 e5
        obtain ⟨xs6, k6, hk6, hxy6, _, hxl6, hf6⟩ := DataW.trod_struct Tryz.underlying33 g6
        match xs6, hxl6 with
        | [z0, z1, z2, z3, z4, z5, z6], _ =>
          have j0 := hf6 0 _ rfl
          have j1 := hf6 1 _ rfl
          have j2 := hf6 2 _ rfl
          have j3 := hf6 3 _ rfl
          have j4 := hf6 4 _ rfl
          have j5 := hf6 5 _ rfl
          have j6 := hf6 6 _ rfl
          simp [cells3] at j0 j1 j2 j3 j4 j5 j6
          obtain ⟨i0, d0, _, l0⟩ := DataW.trod_int Tryz.underlying3 j0
          obtain ⟨i1, d1, _, l1⟩ := DataW.trod_int Tryz.underlying3 j1
          obtain ⟨i2, d2, _, l2⟩ := DataW.trod_int Tryz.underlying3 j2
          obtain ⟨i3, d3, _, l3⟩ := DataW.trod_int Tryz.underlying3 j3
          obtain ⟨i4, d4, _, l4⟩ := DataW.trod_int Tryz.underlying3 j4
          obtain ⟨i5, d5, _, l5⟩ := DataW.trod_int Tryz.underlying3 j5
          obtain ⟨i6, d6, _, l6⟩ := DataW.trod_int Tryz.underlying3 j6
          simp at d0 d1 d2 d3 d4 d5 d6
          subst d0 d1 d2 d3 d4 d5 d6
          have e13 : ∃ ba bn bc, v13 = .slice ba bn bc ∧ ((bn ≤ bc ∧ bc ≤ 9223372036854775807) ∧ ∃ g, In w ba bn bc g) := by
            rcases open_ints Tryz.underlying34 Tryz.underlying5 cells5 g7 with ⟨hcs, _⟩ | ⟨y, l, c, zs, hcs, _, hlc, hcm, hzl, _, hzc, _⟩
            · simp at hcs; exact ⟨none, 0, 0, hcs, ⟨by omega, by omega⟩, fun _ => 0, fun h => absurd h (by omega)⟩
            · simp at hcs
              simp at hzl
              refine ⟨_, _, _, hcs, ⟨hlc, by omega⟩, fun i => zs.getD i 0, fun h => ?_⟩
              obtain ⟨yb, yo, ys⟩ := y
              have c0 := hzc 0 (by omega)
              have e0 : (⟨yb, yo, ys⟩ : Addr).add 0 = ⟨yb, yo, ys⟩ := rfl
              rw [e0] at c0
              obtain rfl := spot_none' c0
              refine ⟨yb, yo, rfl, fun i hi => ?_, hlc⟩
              have ci := hzc i (by omega)
              rw [Addr.add_mid] at ci
              exact ci
          obtain ⟨ba, bn, bc, rfl, hby⟩ := e13
          have q0 := hcell 0 (by omega)
          have q1 := hcell 1 (by omega)
          have q2 := hcell 2 (by omega)
          have q3 := hcell 3 (by omega)
          have q4 := hcell 4 (by omega)
          have q5 := hcell 5 (by omega)
          have q6 := hcell 6 (by omega)
          have q7 := hcell 7 (by omega)
          have q8 := hcell 8 (by omega)
          have q9 := hcell 9 (by omega)
          have q10 := hcell 10 (by omega)
          have q11 := hcell 11 (by omega)
          have q12 := hcell 12 (by omega)
          have q13 := hcell 13 (by omega)
          rw [add_add] at q0 q1 q2 q3 q4 q5 q6 q7 q8 q9 q10 q11 q12 q13
          exact ⟨n0, n1, n2, n3, t4, t5, i0, i1, i2, i3, i4, i5, i6, ba, bn, bc, by simpa using q0, by simpa using q1, by simpa using q2, by simpa using q3, by simpa using q4, by simpa using q5, by simpa using q6, by simpa using q7, by simpa using q8, by simpa using q9, by simpa using q10, by simpa using q11, by simpa using q12, by simpa using q13, by omega, by omega, m0, m1, m2, m3, l0, l1, l2, l3, l4, l5, l6, hby⟩
    obtain ⟨_, _, _, _, _, _, _, _, _, _, _, _, _, _, _, _, c0, -⟩ := key 0 (by omega)
    obtain ⟨kd, dr, tq0, n, s, r, a0, a1, a2, a3, a4, a5, a6, ba, bn, bc, q0, q1, q2, q3, q4, q5, q6, q7, q8, q9, q10, q11, q12, q13, ws, wr, w0, w1, w2, w3, w6, w7, w8, w9, w10, w11, w12, wb⟩ := key i (by omega)
    obtain ⟨b, off, sp⟩ := y
    have e : (⟨b, off, sp⟩ : Addr).add (0 * 14) = ⟨b, off, sp⟩ := rfl
    rw [e] at c0
    obtain rfl := spot_none' c0
    rw [Addr.add_mid] at q0 q1 q2 q3 q4 q5 q6 q7 q8 q9 q10 q11 q12 q13
    exact ⟨b, off, kd, dr, tq0, n, s, r, a0, a1, a2, a3, a4, a5, a6, ba, bn, bc, rfl, lt_of_cell q0, ⟨q0, by simpa [Nat.add_assoc] using q1, by simpa [Nat.add_assoc] using q2, by simpa [Nat.add_assoc] using q3, by simpa [Nat.add_assoc] using q4, by simpa [Nat.add_assoc] using q5, by simpa [Nat.add_assoc] using q6, by simpa [Nat.add_assoc] using q7, by simpa [Nat.add_assoc] using q8, by simpa [Nat.add_assoc] using q9, by simpa [Nat.add_assoc] using q10, by simpa [Nat.add_assoc] using q11, by simpa [Nat.add_assoc] using q12, by simpa [Nat.add_assoc] using q13, ws, wr, w0, w1, w2, w3, w6, w7, w8, w9, w10, w11, w12, wb⟩⟩
end Go.Proofs.YtlngeaacjbdmhaaGreat

namespace Go.Proofs.YtlngeaacjbdmhaaGreat
open Go.ChangeShapes Go.WideShapes Go.ChangeAt Go.RowKit Go.Deep
theorem weightsAll_mem {H : Type} {P : Program} {e : TypeId} : ∀ {ds : List (DataW H)} {d : DataW H}, d ∈ ds → ∀ n ∈ d.weights P e, n ∈ DataW.weightsAll P e ds
  | d0 :: ds, d, hd, n, hn => by
    simp only [DataW.weightsAll, List.mem_append]
    rcases List.mem_cons.1 hd with rfl | hd
    · exact .inl hn
    · exact .inr (weightsAll_mem hd n hn)
  | [], _, hd, _, _ => by simp at hd
def AsksZ (W : World) (pa : Option Addr) (len : Nat) : Prop := ∀ i, i < len → ∀ b off, pa = some ⟨b, off, none⟩ → ∀ (s r : ByteArray), W.cell? ⟨b, off + i * 14 + 4, none⟩ = some (.string s) → W.cell? ⟨b, off + i * 14 + 5, none⟩ = some (.string r) → s.size ≤ 140737488351232 ∧ r.size ≤ 140737488351232
set_option maxRecDepth 100000 in
set_option maxHeartbeats 1000000 in
theorem asksz_of {H : Type} {enc : TypeId × Value → H} {w : World} {held : Bool} {fuel : Nat} {a : Option Addr} {len cap : Nat} {x : DataW H × List MemPlace}
    (h : DataW.trod enc Tryz.prog w 0 (fun _ => true) held fuel 22 [.slice a len cap] = some x) (hs : ∀ n ∈ x.1.weights Tryz.prog 22, n ≤ 140737488351232) : AsksZ w a len := by
  rcases open_slice Tryz.underlying22 h with ⟨hcs, _⟩ | ⟨y, l, c, m, n, D, Pl, hcs, _, hl, hm, hmm, hxx, hx⟩
  · simp at hcs
    obtain ⟨rfl, rfl, rfl⟩ := hcs
    exact fun i hi => absurd hi (Nat.not_lt_zero _)
  · simp at hcs
    obtain ⟨rfl, rfl, rfl⟩ := hcs
    simp at hmm
    subst hmm
    rintro i hi b off e s r hcs hcr
    cases e
    obtain ⟨cs', h1, h2⟩ := hx i (by omega)
    rw [cellsA] at h1
    obtain ⟨_, hlen, hcell⟩ := World.cells?_some h1
    obtain ⟨xs, k, hk, hxy, _, hxl, hf⟩ := DataW.trod_struct Tryz.underlying36 h2
    have hw : ∀ n ∈ (D i).weights Tryz.prog 36, n ≤ 140737488351232 := by
      intro n hn
      refine hs n ?_
      rw [hxx]
      simp only [DataW.weights, Tryz.underlying22]
      exact List.mem_cons_of_mem _ (List.mem_append_left _ (weightsAll_mem (List.mem_map.2 ⟨i, by simpa using hi, rfl⟩) n hn))
    match xs, hxl, cs', hlen with
    | [y0, y1, y2, y3, y4, y5, y6, y7], _, [v0, v1, v2, v3, v4, v5, v6, v7, v8, v9, v10, v11, v12, v13], _ =>
      have g4 := hf 4 _ rfl
      have g5 := hf 5 _ rfl
      simp [cells9] at g4 g5
      obtain ⟨t4, e4, x4, m4⟩ := DataW.trod_string Tryz.underlying9 g4
      obtain ⟨t5, e5, x5, m5⟩ := DataW.trod_string Tryz.underlying9 g5
      simp at e4 e5
      subst e4 e5
      have q4 := hcell 4 (by omega)
      have q5 := hcell 5 (by omega)
      rw [add_add, Addr.add_mid] at q4 q5
      have p4 : w.cell? ⟨b, off + i * 14 + 4, none⟩ = some (.string t4) := by simpa [Nat.add_assoc] using q4
      have p5 : w.cell? ⟨b, off + i * 14 + 5, none⟩ = some (.string t5) := by simpa [Nat.add_assoc] using q5
      rw [hcs] at p4
      rw [hcr] at p5
      cases p4
      cases p5
      have hD : D i = .agg [y0.1, y1.1, y2.1, y3.1, y4.1, y5.1, y6.1, y7.1] := congrArg Prod.fst hxy
      rw [hD] at hw
      simp only [DataW.weights, Tryz.underlying36] at hw
      have z4 := hw s.data.toList.length (DataW.weights_mem_each (j := 4) (t := 9) rfl rfl _ (by rw [x4]; simp [DataW.weights]))
      have z5 := hw r.data.toList.length (DataW.weights_mem_each (j := 5) (t := 9) rfl rfl _ (by rw [x5]; simp [DataW.weights]))
      exact ⟨by simpa using z4, by simpa using z5⟩
end Go.Proofs.YtlngeaacjbdmhaaGreat

namespace Go.Proofs.YtlngeaacjbdmhaaGreat.Bo
open Go.RowKit Bt
attribute [local go_sem ↓] Go.wp_at_zero Go.wp_at_succ
theorem plays_no (nodes blocks : Int) (h : nodes < 1 ∨ 64 < nodes ∨ blocks < 0 ∨ 256 < blocks) (pa : Option Addr) (len cap : Nat) (w : World) :
    Calls Tryz.prog 3 #[I nodes, I blocks, .slice pa len cap] w fun e w' => e = .returned (.bool true) ∧ Below w.heap.size w w' := by
  have HT := hide (new_bad' nodes blocks h w)
  have HD := hide (Rf.dNew_no nodes blocks h)
  have hkn := hide known_any
  clear h
  go_enter Tryz.func3, Tryz.ntmps3
  go_wp2_with fail
  refine (unhide HT).mono ?_
  rintro e w1 ⟨rfl, B1⟩
  have HB1 := hide B1
  clear B1 HT
  go_wp2_with fail
  refine (unhide HD _).mono ?_
  rintro e w' ⟨rfl, hw'⟩
  rw [hw']
  clear hw'
  go_wp2_with fail
  refine (unhide hkn _).mono ?_
  rintro e w6 ⟨rfl, B6⟩
  have HB6 := hide B6
  clear B6
  go_wp2_with fail
  go_ret
  exact ⟨rfl, (unhide HB1).trans ((unhide HB6).mono (unhide HB1).size)⟩
set_option maxRecDepth 100000 in
set_option maxHeartbeats 4000000 in
theorem plays_yes (nn bb : Nat) (hn : 1 ≤ nn ∧ nn ≤ 64) (hb : bb ≤ 256) (pa : Option Addr) (len cap : Nat) (w : World) (H : AsksAt w pa len) (Z : AsksZ w pa len) :
    Calls Tryz.prog 3 #[I (nn : Int), I (bb : Int), .slice pa len cap] w fun e w' => e = .returned (.bool true) ∧ Below w.heap.size w w' := by
  have HA := hide H
  have HZ := hide Z
  have hlen := H.1
  have HN := hide hn
  have HT := hide (new_Q nn bb hn hb w)
  have HD : Hid (∀ W, Calls Tryz.prog 17 #[I (nn : Int), I (bb : Int)] W fun e w' => ∃ r, e = .returned (.tuple #[P0 r, I 0]) ∧ Rf.Dq W.heap.size bb w' r (Tr.new nn bb) ∧ Below W.heap.size W w') := hide fun W => Rf.dNew_any nn bb (unhide HN) hb W
  clear H Z hn hb
  go_enter Tryz.func3, Tryz.ntmps3
  go_wp2_with fail
  refine (unhide HT).mono ?_
  rintro e w1 ⟨t, rfl, T1, B1⟩
  go_wp2_with fail
  refine (unhide HD _).mono ?_
  rintro e w2 ⟨r, rfl, D2, B2⟩
  have S0 : Bo t r w.heap.size w.heap.size bb 1 w w2 (Tr.new nn bb) (Tr.new nn bb) := ⟨(unhide T1).below B2, Dq_weak D2 (unhide B1).size, (unhide T1).f, L16.new _ _, (unhide B1).trans (B2.mono (unhide B1).size), Nat.le_refl _, Nat.le_refl _⟩
  have HS := hide S0
  clear S0 D2 B2 T1 B1
  go_wp2_with fail
  go_loopw [11] (fun i wr => ∃ q : Nat, q ≤ len ∧ q ≤ 60 ∧ i = .int .i64 (q : Int) ∧ Hid (∃ T, Bo t r w.heap.size w.heap.size bb (1 + 4 * q) w wr T T)) (fun i _ => 60 - (intOf i).toNat)
  case atStart => exact ⟨0, Nat.zero_le _, Nat.zero_le _, rfl, hide ⟨_, unhide HS⟩⟩
  case round =>
    obtain ⟨q, hq, hq8, rfl, ⟨T, S1⟩⟩ := hrel
    have HB := hide S1
    by_cases hlt : q < len ∧ q < 60
    · have hl1 : (q : Int) < (len : Int) := by omega
      have hl2 : (q : Int) < 60 := by omega
      obtain ⟨b, off, kd, dr, tq, n, s, u, a0, a1, a2, a3, a4, a5, a6, ba, bn, bc, hpa, hb, hA⟩ := (unhide HA).2 q hlt.1
      have hz := unhide HZ q hlt.1 b off hpa s u hA.c4 hA.c5
      have HST : Hid (∀ W', Below w.heap.size w W' → AskAt W' b (off + q * 14) kd dr tq n s u a0 a1 a2 a3 a4 a5 a6 ba bn bc) := hide fun W' g => hA.below g
      have HOK : Hid (Aq.Ok ⟨kd, dr, tq, n, s, u, a0, a1, a2, a3, a4, a5, a6, ba, bn, bc⟩) := hide ⟨hA.w1, hA.w2, hA.w3, Nat.le_trans hz.1 (by omega), Nat.le_trans hz.2 (by omega)⟩
      have HO : Hid (∀ W', Bo t r w.heap.size w.heap.size bb (1 + 4 * q) w W' T T → Calls Tryz.prog 19 #[P0 t, P0 r, .agg #[I kd, I dr, I tq, I n, .string s, .string u, I a0, I a1, I a2, I a3, I a4, I a5, I a6, .slice ba bn bc]] W' fun e w' => e = .returned (.bool true) ∧ Hid (On1 t r w.heap.size bb (1 + 4 * q) w W' w')) := by
        obtain ⟨g, hg⟩ := hA.wb.2
        exact hide fun W' hS => one_any (x := ⟨kd, dr, tq, n, s, u, a0, a1, a2, a3, a4, a5, a6, ba, bn, bc⟩) hS (by omega) (unhide HOK) hA.wb.1 hg
      have hq5 : 1 + 4 * q + 4 ≤ 850 := by omega
      obtain ⟨c0, c1, c2, c3, c4, c5, c6, c7, c8, c9, c10, c11, c12, c13, -⟩ := unhide HST _ S1.be
      have HQ5 := hide hq5
      subst hpa
      clear S1 hA hz hq5
      go_wp2_with fail
      go_region_held3 (fun W' => W'.cell? ⟨b, off + q * 14, none⟩ = some (I kd) ∧ W'.cell? ⟨b, off + q * 14 + 1, none⟩ = some (I dr) ∧ W'.cell? ⟨b, off + q * 14 + 2, none⟩ = some (I tq) ∧ W'.cell? ⟨b, off + q * 14 + 3, none⟩ = some (I n) ∧ W'.cell? ⟨b, off + q * 14 + 4, none⟩ = some (.string s) ∧ W'.cell? ⟨b, off + q * 14 + 5, none⟩ = some (.string u) ∧ W'.cell? ⟨b, off + q * 14 + 6, none⟩ = some (I a0) ∧ W'.cell? ⟨b, off + q * 14 + 7, none⟩ = some (I a1) ∧ W'.cell? ⟨b, off + q * 14 + 8, none⟩ = some (I a2) ∧ W'.cell? ⟨b, off + q * 14 + 9, none⟩ = some (I a3) ∧ W'.cell? ⟨b, off + q * 14 + 10, none⟩ = some (I a4) ∧ W'.cell? ⟨b, off + q * 14 + 11, none⟩ = some (I a5) ∧ W'.cell? ⟨b, off + q * 14 + 12, none⟩ = some (I a6) ∧ W'.cell? ⟨b, off + q * 14 + 13, none⟩ = some (.slice ba bn bc)) (first | exact ⟨by assumption, by assumption, by assumption, by assumption, by assumption, by assumption, by assumption, by assumption, by assumption, by assumption, by assumption, by assumption, by assumption, by assumption⟩ | go_keep)
        (first
          | (go_at_call 19; refine (unhide HO _ (unhide HB).drew).mono ?_; rintro e w4 ⟨rfl, O4⟩; obtain ⟨T4, S4, _⟩ := unhide O4; obtain ⟨ls, hls⟩ := S4.q.f.ab dr; obtain ⟨z, hz⟩ : ∃ z, decide (tq ∈ ls) = z := ⟨_, rfl⟩; have HZ4 := hide hz; have HL4 := hide hls; have HS4 := hide S4; clear S4 O4 hz hls; obtain ⟨c0, c1, c2, c3, c4, c5, c6, c7, c8, c9, c10, c11, c12, c13, -⟩ := unhide HST _ (unhide HS4).be)
          | (go_at_call 20; refine (tWithin_o (unhide HS4) (unhide HQ5) (unhide HOK).dr tq (unhide HL4) z (unhide HZ4)).mono ?_; rintro e w5 ⟨rfl, B5⟩; have HS5 := hide ((unhide HS4).below B5); clear B5; obtain ⟨c0, c1, c2, c3, c4, c5, c6, c7, c8, c9, c10, c11, c12, c13, -⟩ := unhide HST _ (unhide HS5).be)
          | (go_at_call 21; refine (dWithin_o (unhide HS5) (unhide HQ5) (unhide HOK).dr (unhide HOK).tq (unhide HL4) z (unhide HZ4)).mono ?_; rintro e w6 ⟨rfl, hw6⟩; rw [hw6]; clear hw6))
      clear c0 c1 c2 c3 c4 c5 c6 c7 c8 c9 c10 c11 c12 c13
      by_cases h6 : q % 6 = 5
      · have HK := hide (alike_any (unhide HS5) (unhide HQ5) 20 (by omega))
        go_wp2_with fail
        refine (unhide HK).mono ?_
        rintro e w7 ⟨rfl, B7⟩
        have HS7 := hide ((unhide HS5).below B7)
        clear B7 HK
        go_wp2_with fail
        exact ⟨⟨q + 1, by omega, by omega, by go_num, hide ⟨T4, (unhide HS7).mono (by omega)⟩⟩, by simp [intOf]; omega⟩
      · go_wp2_with fail
        exact ⟨⟨q + 1, by omega, by omega, by go_num, hide ⟨T4, (unhide HS5).mono (by omega)⟩⟩, by simp [intOf]; omega⟩
    · have HK := hide (alike_any (unhide HB) (by omega) 62 (by omega))
      have hkn := hide known_any
      clear S1
      by_cases hql : q = len
      · subst hql
        go_wp2_with fail
        refine (unhide HK).mono ?_
        rintro e w5 ⟨rfl, B5⟩
        have HB5 := hide B5
        clear B5
        go_wp2_with fail
        refine (unhide hkn _).mono ?_
        rintro e w6 ⟨rfl, B6⟩
        have HB6 := hide B6
        clear B6
        go_wp2_with fail
        go_ret
        exact ⟨rfl, (unhide HB).be.trans (((unhide HB5).trans ((unhide HB6).mono (unhide HB5).size)).mono (unhide HB).be.size)⟩
      · obtain rfl : q = 60 := by omega
        have h80 : (60 : Int) < (len : Int) := by omega
        go_wp2_with fail
        refine (unhide HK).mono ?_
        rintro e w5 ⟨rfl, B5⟩
        have HB5 := hide B5
        clear B5
        go_wp2_with fail
        refine (unhide hkn _).mono ?_
        rintro e w6 ⟨rfl, B6⟩
        have HB6 := hide B6
        clear B6
        go_wp2_with fail
        go_ret
        exact ⟨rfl, (unhide HB).be.trans (((unhide HB5).trans ((unhide HB6).mono (unhide HB5).size)).mono (unhide HB).be.size)⟩
theorem plays_walk (nodes blocks : Int) (pa : Option Addr) (len cap : Nat) (w : World) (H : AsksAt w pa len) (Z : AsksZ w pa len) :
    Calls Tryz.prog 3 #[I nodes, I blocks, .slice pa len cap] w fun e w' => e = .returned (.bool true) ∧ Below w.heap.size w w' := by
  by_cases h : nodes < 1 ∨ 64 < nodes ∨ blocks < 0 ∨ 256 < blocks
  · exact plays_no nodes blocks h pa len cap w
  · obtain ⟨nn, rfl⟩ : ∃ nn : Nat, nodes = (nn : Int) := ⟨nodes.toNat, by omega⟩
    obtain ⟨bb, rfl⟩ : ∃ bb : Nat, blocks = (bb : Int) := ⟨blocks.toNat, by omega⟩
    exact plays_yes nn bb (by omega) (by omega) pa len cap w H Z
end Go.Proofs.YtlngeaacjbdmhaaGreat.Bo

namespace Go.Proofs.YtlngeaacjbdmhaaGreat.gr
open Go
theorem p1 : laidOutB Tryz.pinned.checked.prog = true := by kernel_rfl
theorem p2 : mapsRowed Tryz.pinned.checked.prog = true := by kernel_rfl
theorem p3 : (Tryz.pinned.checked.prog.stops == []) = true := by kernel_rfl
theorem p4 : (Tryz.pinned.checked.prog.stopKnobs == []) = true := by kernel_rfl
theorem p5 : Tryz.pinned.checked.prog.stopsHeard = true := by kernel_rfl
theorem p6 : Tryz.pinned.checked.prog.mayEnter = true := by kernel_rfl
theorem a2 {a b : Bool} (h : a = true) (g : b = true) : (a && b) = true := by rw [h, g]; rfl
theorem joined_of {P : Program} {f : FuncId} {fn : Func} {s : ChangeSpec} {c : OpenClaim}
    (h1 : c.wf (OpenSpec.ofChange s) = true) (h2 : laidOutB P = true) (h3 : mapsRowed P = true) (h4 : fn.params.all (P.readableRec ·) = true) (h5 : namedTie P c.named s.vars = true)
    (h6 : (c.stops == []) = true) (h7 : (P.stops == []) = true) (h8 : (c.knobs == []) = true) (h9 : (P.stopKnobs == []) = true)
    (h10 : (c.inPlace == P.inPlace f) = true) (h11 : (c.unfollowed == P.unfollowed f) = true) (h12 : (c.recurses == P.recurses f) = true) (h13 : (c.named == P.varsNamed f) = true)
    (h14 : (c.maps == (fn.params.toList ++ s.plain.varTypes P).any (P.mapsRec ·)) = true) (h15 : (c.ifaces == (fn.params.toList ++ s.plain.varTypes P).any (P.ifacesRec ·)) = true) (h16 : (c.mapsOut == P.mapsAmong fn.resultTypes.toList) = true)
    (h17 : (c.loops == (fn.params.toList ++ s.plain.varTypes P).any (P.loopsFrom ·)) = true) (h18 : (c.wideKeys == (fn.params.toList ++ s.plain.varTypes P ++ fn.resultTypes.toList).any (P.wideKeysFrom ·)) = true)
    (h19 : s.vars.all (P.varReadable ·) = true) (h20 : fn.resultTypes.all (fun t => P.readableRec t && decide (t < P.types.size)) = true) (h21 : (c.ifacesOut == fn.resultTypes.toList.any (P.ifacesRec ·)) = true) (h22 : (c.loopsOut == fn.resultTypes.toList.any (P.loopsFrom ·)) = true)
    (h23 : (c.plainKeys == P.plainKeys) = true) (h24 : c.shortTexts.isNone = true) (h25 : P.stopsHeard = true) (h26 : P.mayEnter = true) (h27 : (c.lifted == P.liftsFinal) = true) (h28 : (P.make == some c.make) = true)
    (h29 : (c.kinds == (if c.domain.isEmpty then [] else fn.params.toList.map fun t => match P.underlying t with | some (.int k) => some k | _ => none)) = true) (h30 : (c.pinned == c.pinnedBy) = true)
    (h31 : (c.veiled == (fn.params.toList ++ s.plain.varTypes P ++ fn.resultTypes.toList).any (P.veiledRec ·)) = true) (h32 : c.veiledFits P fn.params.toList (fn.params.toList ++ s.plain.varTypes P ++ fn.resultTypes.toList) = true) : joinedFacts P f fn s c = true := by
  unfold joinedFacts
  exact a2 (a2 (a2 (a2 (a2 (a2 (a2 (a2 (a2 (a2 (a2 (a2 (a2 (a2 (a2 (a2 (a2 (a2 (a2 (a2 (a2 (a2 (a2 (a2 (a2 (a2 (a2 (a2 (a2 (a2 (a2 h1 h2) h3) h4) h5) h6) h7) h8) h9) h10) h11) h12) h13) h14) h15) h16) h17) h18) h19) h20) h21) h22) h23) h24) h25) h26) h27) h28) h29) h30) h31) h32
end Go.Proofs.YtlngeaacjbdmhaaGreat.gr
