/-
  What a walk is told of numbers that came in.
-/
import Derived.Test.YtlngeaacjbdmhaaGreatMp12
import Derived.Test.YtlngeaacjbdmhaaGreatMp31
import Derived.ProofKit
import Derived.Deep.Slices
import Derived.SliceStrings
import Derived.Deep.Grids
import Derived.Test.YtlngeaacjbdmhaaGreatMp32
import Derived.Test.YtlngeaacjbdmhaaGreatMp30
import Derived.Test.YtlngeaacjbdmhaaGreatMp33
set_option maxRecDepth 100000
namespace Go.Proofs.YtlngeaacjbdmhaaGreat.Bt
open Go.ChangeShapes Go.WideShapes Go.ChangeAt Go.RowKit Go.Deep
theorem spot_none {w : World} {b off : Nat} {sp : Option Nat} {v : Value} (h : w.cell? ⟨b, off, sp⟩ = some v) : sp = none := by
  unfold World.cell? at h
  cases sp with
  | none => rfl
  | some s => cases hq : w.heap[b]? with
    | none => simp [hq] at h
    | some o => cases o <;> simp [hq] at h
theorem addr_add (b off i : Nat) : (⟨b, off, none⟩ : Addr).add i = ⟨b, off + i, none⟩ := by unfold Addr.add; split <;> simp_all
theorem cells3 : Tryz.prog.cellsOf 3 = 1 := by kernel_rfl
theorem cells9 : Tryz.prog.cellsOf 9 = 1 := by kernel_rfl
theorem cellsS : Tryz.prog.cellsOf 33 = 7 := by kernel_rfl
theorem cellsP : Tryz.prog.cellsOf 50 = 2 := by kernel_rfl
theorem cellsC : Tryz.prog.cellsOf 57 = 2 := by kernel_rfl
theorem cellsA : Tryz.prog.cellsOf 52 = 15 := by kernel_rfl
theorem max_le : maxLen ≤ 9223372036854775807 := by decide
theorem iw_of {n : Int} (h : (kl n).wf = true) : Iw n := by
  have := Rb.wf_bounds h
  exact ⟨by omega, by omega⟩
theorem add_add (b : Addr) (i j : Nat) : (b.add i).add j = b.add (i + j) := by
  unfold Addr.add
  by_cases hi : i = 0
  · subst hi; simp
  · by_cases hj : j = 0
    · subst hj; simp [hi]
    · simp [hi, hj, Nat.add_assoc]
def IntsAt (W : World) (pa : Option Addr) (len : Nat) : Prop := len ≤ 9223372036854775807 ∧ ∀ i, i < len → ∃ b off v, pa = some ⟨b, off, none⟩ ∧ b < W.heap.size ∧ W.cell? ⟨b, off + i, none⟩ = some (I v) ∧ Iw v
theorem IntsAt.below {W W' : World} {pa : Option Addr} {len : Nat} (h : IntsAt W pa len) (g : Below W.heap.size W W') : IntsAt W' pa len :=
  ⟨h.1, fun i hi => by
    obtain ⟨b, off, s, h1, h2, h3, h4⟩ := h.2 i hi
    exact ⟨b, off, s, h1, Nat.lt_of_lt_of_le h2 g.size, (cell_same (g.block b h2) _).trans h3, h4⟩⟩
theorem ints_of {H : Type} {enc : TypeId × Value → H} {w : World} {held : Bool} {fuel : Nat} {a : Option Addr} {len cap : Nat} {x : DataW H × List MemPlace}
    (h : DataW.trod enc Tryz.prog w 0 (fun _ => true) held fuel 72 [.slice a len cap] = some x) : IntsAt w a len := by
  rcases open_slice Tryz.underlying72 h with ⟨hcs, _⟩ | ⟨y, l, c, m, n, D, Pl, hcs, _, hl, hm, hmm, _, hx⟩
  · simp at hcs
    obtain ⟨rfl, rfl, rfl⟩ := hcs
    exact ⟨Nat.zero_le _, fun i hi => absurd hi (Nat.not_lt_zero _)⟩
  · simp at hcs
    obtain ⟨rfl, rfl, rfl⟩ := hcs
    simp at hmm
    subst hmm
    have hml := max_le
    refine ⟨by omega, fun i hi => ?_⟩
    have key : ∀ j, j ≤ i → ∃ v : Int, w.cell? (y.add j) = some (I v) ∧ (kl v).wf = true := by
      intro j hj
      obtain ⟨cs', h1, h2⟩ := hx j (by omega)
      rw [cells3] at h1
      obtain ⟨_, hlen, hcell⟩ := World.cells?_some h1
      match cs', hlen with
      | [v0], _ =>
        obtain ⟨n0, e0, _, m0⟩ := DataW.trod_int Tryz.underlying3 h2
        simp at e0
        subst e0
        have q0 := hcell 0 (by omega)
        rw [add_add] at q0
        exact ⟨n0, by simpa using q0, m0⟩
    obtain ⟨_, c0, -⟩ := key 0 (by omega)
    obtain ⟨v, q0, hv⟩ := key i (by omega)
    obtain ⟨b, off, sp⟩ := y
    have e : (⟨b, off, sp⟩ : Addr).add 0 = ⟨b, off, sp⟩ := rfl
    rw [e] at c0
    obtain rfl := spot_none c0
    rw [addr_add] at q0
    exact ⟨b, off, v, rfl, lt_of_cell q0, q0, iw_of hv⟩
end Go.Proofs.YtlngeaacjbdmhaaGreat.Bt

namespace Go.Proofs.YtlngeaacjbdmhaaGreat.Bt
open Go.RowKit
attribute [local go_sem ↓] Go.wp_at_zero Go.wp_at_succ
def nm9 : List ByteArray := [⟨#[97]⟩, ⟨#[98]⟩, ⟨#[99]⟩, ⟨#[108]⟩, ⟨#[46, 46]⟩, ⟨#[46]⟩, ⟨#[47]⟩, ⟨#[47, 47]⟩, ⟨#[122, 122]⟩]
theorem nm9_size {s : ByteArray} (h : s ∈ nm9) : 1 ≤ s.size ∧ s.size ≤ 2 := by
  simp only [nm9, List.mem_cons, List.not_mem_nil, or_false] at h
  rcases h with rfl | rfl | rfl | rfl | rfl | rfl | rfl | rfl | rfl <;> decide
theorem rw9 {W : World} {g : Nat} (h : W.heap[g]? = some (.cells #[Value.string ⟨#[97]⟩, Value.string ⟨#[98]⟩, Value.string ⟨#[99]⟩, Value.string ⟨#[108]⟩, Value.string ⟨#[46, 46]⟩, Value.string ⟨#[46]⟩, Value.string ⟨#[47]⟩, Value.string ⟨#[47, 47]⟩, Value.string ⟨#[122, 122]⟩] 9)) (k : Nat) (hk : (k : Int) < 9) : ∃ s, s ∈ nm9 ∧ W.cell? ⟨g, k, none⟩ = some (.string s) := by
  rw [cell_of h]
  match k, (by omega : k < 9) with
  | 0, _ => exact ⟨⟨#[97]⟩, by simp [nm9], rfl⟩
  | 1, _ => exact ⟨⟨#[98]⟩, by simp [nm9], rfl⟩
  | 2, _ => exact ⟨⟨#[99]⟩, by simp [nm9], rfl⟩
  | 3, _ => exact ⟨⟨#[108]⟩, by simp [nm9], rfl⟩
  | 4, _ => exact ⟨⟨#[46, 46]⟩, by simp [nm9], rfl⟩
  | 5, _ => exact ⟨⟨#[46]⟩, by simp [nm9], rfl⟩
  | 6, _ => exact ⟨⟨#[47]⟩, by simp [nm9], rfl⟩
  | 7, _ => exact ⟨⟨#[47, 47]⟩, by simp [nm9], rfl⟩
  | 8, _ => exact ⟨⟨#[122, 122]⟩, by simp [nm9], rfl⟩
set_option maxHeartbeats 4000000 in
theorem path_nz (pa : Option Addr) (len cap : Nat) (w : World) (ha : IntsAt w pa len) :
    Calls Tryz.prog 35 #[.slice pa len cap] w fun e w' => ∃ s : ByteArray, e = .returned (.string s) ∧ s.size ≤ 36 ∧ (0 : UInt8) ∉ s.data.toList ∧ Below w.heap.size w w' := by
  have hlen : (len : Int) ≤ 9223372036854775807 := by have := ha.1; omega
  obtain ⟨V, hV, hg, hB⟩ : ∃ V, w.alloc (.cells #[Value.string ⟨#[97]⟩, Value.string ⟨#[98]⟩, Value.string ⟨#[99]⟩, Value.string ⟨#[108]⟩, Value.string ⟨#[46, 46]⟩, Value.string ⟨#[46]⟩, Value.string ⟨#[47]⟩, Value.string ⟨#[47, 47]⟩, Value.string ⟨#[122, 122]⟩] 9) = V ∧ V.heap[w.heap.size]? = some (.cells #[Value.string ⟨#[97]⟩, Value.string ⟨#[98]⟩, Value.string ⟨#[99]⟩, Value.string ⟨#[108]⟩, Value.string ⟨#[46, 46]⟩, Value.string ⟨#[46]⟩, Value.string ⟨#[47]⟩, Value.string ⟨#[47, 47]⟩, Value.string ⟨#[122, 122]⟩] 9) ∧ Below w.heap.size w V := ⟨_, rfl, heap_alloc_new w _, (Below.refl _ _).alloc (Nat.le_refl _) _⟩
  have HA := hide (ha.below hB)
  have HG := hide hg
  have HB := hide hB
  have HSm := hide small_any
  clear ha hg hB
  generalize hgg : w.heap.size = g at *
  go_enter Tryz.func35, Tryz.ntmps35
  go_wp2_with fail
  go_loopw [3, 5] (fun v3 v5 wr => ∃ (k : Nat) (s : ByteArray), v3 = .string s ∧ v5 = I k ∧ k ≤ 12 ∧ k ≤ len ∧ wr = V ∧ Hid (s.size ≤ 3 * k ∧ (0 < k → 0 < s.size) ∧ (0 : UInt8) ∉ s.data.toList)) (fun _ v _ => 12 - (intOf v).toNat)
  case atStart => exact ⟨0, ⟨#[]⟩, rfl, rfl, by omega, by omega, rfl, hide ⟨by decide, by omega, by simp⟩⟩
  case round =>
    obtain ⟨k, s, rfl, rfl, hk, hkl, hwr, hI⟩ := hrel
    subst wr
    obtain ⟨hs1, hs2, hs3⟩ := unhide hI
    have HNZ := hide hs3
    clear hs3
    by_cases hc : k < len ∧ k < 12
    · obtain ⟨b, off, v, rfl, hb, hv, hw1, hw2⟩ := (unhide HA).2 k hc.1
      have j1 : (k : Int) < (len : Int) := by omega
      have j2 : (k : Int) < 12 := by omega
      have j0 : (0 : Int) ≤ (k : Int) := by omega
      have hz : s.size ≤ 36 := by omega
      clear hI
      go_wp2_with fail
      refine (unhide HSm v 9 _ hw1 hw2 (by decide) (by decide)).mono ?_
      rintro e w' ⟨q, rfl, hq, hw'⟩
      rw [hw']
      clear hw' w'
      obtain ⟨p, hp, gc⟩ := rw9 (unhide HG) q hq
      have gc0 : V.cell? ⟨g, 0 + q, none⟩ = some (.string p) := by rw [Nat.zero_add]; exact gc
      have hq0 : (0 : Int) ≤ (q : Int) := by omega
      have hps := nm9_size hp
      have e47 : (⟨#[47]⟩ : ByteArray).size = 1 := rfl
      simp only [nm9, List.mem_cons, List.not_mem_nil, or_false] at hp
      by_cases hk0 : k = 0
      · subst hk0
        obtain rfl : s = ⟨#[]⟩ := by
          have : s.data = #[] := Array.eq_empty_of_size_eq_zero (by have : s.size = 0 := by omega
                                                                    exact this)
          cases s
          simp_all
        rcases hp with rfl | rfl | rfl | rfl | rfl | rfl | rfl | rfl | rfl <;>
        · go_wp2_with fail
          refine ⟨⟨1, _, rfl, rfl, by omega, by omega, trivial, hide ⟨by decide, fun _ => by decide, by simp⟩⟩, by simp [intOf]⟩
      · have k1 : (0 : Int) < (k : Int) := by omega
        have k2 : 0 < k := by omega
        obtain ⟨m, hm⟩ : ∃ m : Nat, s.size = m + 1 := ⟨s.size - 1, by have := hs2 (by omega); omega⟩
        have u1 : (s.size : Int) - 1 = (m : Int) := by omega
        have u2 : IntKind.i64.wrap ((s.size : Int) - 1) = (m : Int) := by rw [u1, IntKind.wrap_i64]; omega
        have u3 : (m : Int) < (s.size : Int) := by omega
        have u4 : (0 : Int) ≤ (m : Int) := by omega
        have HS1 := hide hs1
        have HPS := hide (⟨hps, e47⟩ : _ ∧ _)
        clear hs1 hs2 hps e47
        rcases hp with rfl | rfl | rfl | rfl | rfl | rfl | rfl | rfl | rfl <;>
        · go_wp2_with fail
          all_goals
            have hs1 := unhide HS1
            obtain ⟨hps, e47⟩ := unhide HPS
            refine ⟨⟨k + 1, _, rfl, by simp, by omega, by omega, trivial, hide ⟨?_, fun _ => ?_, ?_⟩⟩, by simp [intOf]; omega⟩
            · simp only [ByteArray.size_append]; omega
            · simp only [ByteArray.size_append]; omega
            · have := unhide HNZ
              simp_all
    · by_cases hl : k < len
      · have j1 : (k : Int) < (len : Int) := by omega
        obtain rfl : k = 12 := by omega
        have HI := hide (show s.size ≤ 36 by omega)
        go_wp2_with fail
        go_ret
        exact ⟨s, rfl, unhide HI, by simpa using unhide HNZ, unhide HB⟩
      · have j1 : ¬ ((k : Int) < (len : Int)) := by omega
        have HI := hide (show s.size ≤ 36 by omega)
        go_wp2_with fail
        go_ret
        exact ⟨s, rfl, unhide HI, by simpa using unhide HNZ, unhide HB⟩
end Go.Proofs.YtlngeaacjbdmhaaGreat.Bt

namespace Go.Proofs.YtlngeaacjbdmhaaGreat.Bt
open Go.RowKit
attribute [local go_sem ↓] Go.wp_at_zero Go.wp_at_succ
end Go.Proofs.YtlngeaacjbdmhaaGreat.Bt

namespace Go.Proofs.YtlngeaacjbdmhaaGreat.Bt
open Go.ChangeShapes Go.WideShapes Go.ChangeAt Go.RowKit Go.Deep
structure ActAt (W : World) (b o : Nat) (x : Ac) : Prop where
  c0 : W.cell? ⟨b, o, none⟩ = some (I x.kind)
  c1 : W.cell? ⟨b, o + 1, none⟩ = some (I x.dir)
  c2 : W.cell? ⟨b, o + 2, none⟩ = some (I x.tq)
  c3 : W.cell? ⟨b, o + 3, none⟩ = some (I x.n)
  c4 : W.cell? ⟨b, o + 4, none⟩ = some (.string x.s)
  c5 : W.cell? ⟨b, o + 5, none⟩ = some (.string x.ad)
  c6 : W.cell? ⟨b, o + 6, none⟩ = some (I x.sn)
  c7 : W.cell? ⟨b, o + 7, none⟩ = some (I x.kd)
  c8 : W.cell? ⟨b, o + 8, none⟩ = some (I x.mo)
  c9 : W.cell? ⟨b, o + 9, none⟩ = some (I x.ui)
  c10 : W.cell? ⟨b, o + 10, none⟩ = some (I x.gi)
  c11 : W.cell? ⟨b, o + 11, none⟩ = some (I x.li)
  c12 : W.cell? ⟨b, o + 12, none⟩ = some (I x.si)
  c13 : W.cell? ⟨b, o + 13, none⟩ = some (I x.am)
  c14 : W.cell? ⟨b, o + 14, none⟩ = some (I x.an)
  w : x.Wd
def ActsAt (W : World) (pa : Option Addr) (len : Nat) : Prop := len ≤ 9223372036854775807 ∧ ∀ i, i < len → ∃ b off x, pa = some ⟨b, off, none⟩ ∧ b < W.heap.size ∧ ActAt W b (off + i * 15) x
theorem ActAt.below {B : Nat} {W W' : World} {b o : Nat} {x : Ac} (h : ActAt W b o x) (hb : b < B) (g : Below B W W') : ActAt W' b o x := by
  have hs := fun i => cell_same (g.block b hb) i
  exact ⟨(hs _).trans h.c0, (hs _).trans h.c1, (hs _).trans h.c2, (hs _).trans h.c3, (hs _).trans h.c4, (hs _).trans h.c5, (hs _).trans h.c6, (hs _).trans h.c7, (hs _).trans h.c8, (hs _).trans h.c9, (hs _).trans h.c10, (hs _).trans h.c11, (hs _).trans h.c12, (hs _).trans h.c13, (hs _).trans h.c14, h.w⟩
set_option maxHeartbeats 1000000 in
theorem acts_of {H : Type} {enc : TypeId × Value → H} {w : World} {held : Bool} {fuel : Nat} {a : Option Addr} {len cap : Nat} {x : DataW H × List MemPlace}
    (h : DataW.trod enc Tryz.prog w 0 (fun _ => true) held fuel 53 [.slice a len cap] = some x) : ActsAt w a len := by
  rcases open_slice Tryz.underlying53 h with ⟨hcs, _⟩ | ⟨y, l, c, m, n, D, Pl, hcs, _, hl, hm, hmm, _, hx⟩
  · simp at hcs
    obtain ⟨rfl, rfl, rfl⟩ := hcs
    exact ⟨Nat.zero_le _, fun i hi => absurd hi (Nat.not_lt_zero _)⟩
  · simp at hcs
    obtain ⟨rfl, rfl, rfl⟩ := hcs
    simp at hmm
    subst hmm
    have hml := max_le
    refine ⟨by omega, fun i hi => ?_⟩
    have key : ∀ j, j ≤ i → ∃ x : Ac, w.cell? (y.add (j * 15)) = some (I x.kind) ∧ w.cell? (y.add (j * 15 + 1)) = some (I x.dir) ∧ w.cell? (y.add (j * 15 + 2)) = some (I x.tq) ∧ w.cell? (y.add (j * 15 + 3)) = some (I x.n) ∧ w.cell? (y.add (j * 15 + 4)) = some (.string x.s) ∧ w.cell? (y.add (j * 15 + 5)) = some (.string x.ad) ∧ w.cell? (y.add (j * 15 + 6)) = some (I x.sn) ∧ w.cell? (y.add (j * 15 + 7)) = some (I x.kd) ∧ w.cell? (y.add (j * 15 + 8)) = some (I x.mo) ∧ w.cell? (y.add (j * 15 + 9)) = some (I x.ui) ∧ w.cell? (y.add (j * 15 + 10)) = some (I x.gi) ∧ w.cell? (y.add (j * 15 + 11)) = some (I x.li) ∧ w.cell? (y.add (j * 15 + 12)) = some (I x.si) ∧ w.cell? (y.add (j * 15 + 13)) = some (I x.am) ∧ w.cell? (y.add (j * 15 + 14)) = some (I x.an) ∧ x.Wd := by
      intro j hj
      obtain ⟨cs', h1, h2⟩ := hx j (by omega)
      rw [cellsA] at h1
      obtain ⟨_, hlen, hcell⟩ := World.cells?_some h1
      obtain ⟨xs, k, hk, hxy, _, hxl, hf⟩ := DataW.trod_struct Tryz.underlying52 h2
      match xs, hxl, cs', hlen with
      | [y0, y1, y2, y3, y4, y5, y6, y7], _, [v0, v1, v2, v3, v4, v5, v6, v7, v8, v9, v10, v11, v12, v13, v14], _ =>
        have g0 := hf 0 _ rfl
        have g1 := hf 1 _ rfl
        have g2 := hf 2 _ rfl
        have g3 := hf 3 _ rfl
        have g4 := hf 4 _ rfl
        have g5 := hf 5 _ rfl
        have g6 := hf 6 _ rfl
        have g7 := hf 7 _ rfl
        simp [cells3, cells9, cellsS, cellsP] at g0 g1 g2 g3 g4 g5 g6 g7
        obtain ⟨n0, e0, _, m0⟩ := DataW.trod_int Tryz.underlying3 g0
        obtain ⟨n1, e1, _, m1⟩ := DataW.trod_int Tryz.underlying3 g1
        obtain ⟨n2, e2, _, m2⟩ := DataW.trod_int Tryz.underlying3 g2
        obtain ⟨n3, e3, _, m3⟩ := DataW.trod_int Tryz.underlying3 g3
        obtain ⟨t4, e4, _, m4⟩ := DataW.trod_string Tryz.underlying9 g4
        obtain ⟨t5, e5, _, m5⟩ := DataW.trod_string Tryz.underlying9 g5
        simp at e0 e1 e2 e3 e4 e5
        subst e0 e1 e2 e3 e4 e5
        obtain ⟨xs6, k6, hk6, hxy6, _, hxl6, hf6⟩ := DataW.trod_struct Tryz.underlying33 g6
        obtain ⟨xs7, k7, hk7, hxy7, _, hxl7, hf7⟩ := DataW.trod_struct Tryz.underlying50 g7
        match xs6, hxl6, xs7, hxl7 with
        | [z0, z1, z2, z3, z4, z5, z6], _, [p0, p1], _ =>
          have j0 := hf6 0 _ rfl
          have j1 := hf6 1 _ rfl
          have j2 := hf6 2 _ rfl
          have j3 := hf6 3 _ rfl
          have j4 := hf6 4 _ rfl
          have j5 := hf6 5 _ rfl
          have j6 := hf6 6 _ rfl
          have j7 := hf7 0 _ rfl
          have j8 := hf7 1 _ rfl
          simp [cells3] at j0 j1 j2 j3 j4 j5 j6 j7 j8
          obtain ⟨i0, d0, _, l0⟩ := DataW.trod_int Tryz.underlying3 j0
          obtain ⟨i1, d1, _, l1⟩ := DataW.trod_int Tryz.underlying3 j1
          obtain ⟨i2, d2, _, l2⟩ := DataW.trod_int Tryz.underlying3 j2
          obtain ⟨i3, d3, _, l3⟩ := DataW.trod_int Tryz.underlying3 j3
          obtain ⟨i4, d4, _, l4⟩ := DataW.trod_int Tryz.underlying3 j4
          obtain ⟨i5, d5, _, l5⟩ := DataW.trod_int Tryz.underlying3 j5
          obtain ⟨i6, d6, _, l6⟩ := DataW.trod_int Tryz.underlying3 j6
          obtain ⟨i7, d7, _, l7⟩ := DataW.trod_int Tryz.underlying3 j7
          obtain ⟨i8, d8, _, l8⟩ := DataW.trod_int Tryz.underlying3 j8
          simp at d0 d1 d2 d3 d4 d5 d6 d7 d8
          subst d0 d1 d2 d3 d4 d5 d6 d7 d8
          have q0 := hcell 0 (by omega)
          have q1 := hcell 1 (by omega)
          have q2 := hcell 2 (by omega)
          have q3 := hcell 3 (by omega)
          have q4 := hcell 4 (by omega)
          have q5 := hcell 5 (by omega)
          have q6 := hcell 6 (by omega)
          have q7 := hcell 7 (by omega)
          have q8 := hcell 8 (by omega)
          have q9 := hcell 9 (by omega)
          have q10 := hcell 10 (by omega)
          have q11 := hcell 11 (by omega)
          have q12 := hcell 12 (by omega)
          have q13 := hcell 13 (by omega)
          have q14 := hcell 14 (by omega)
          rw [add_add] at q0 q1 q2 q3 q4 q5 q6 q7 q8 q9 q10 q11 q12 q13 q14
          exact ⟨⟨n0, n1, n2, n3, t4, t5, i0, i1, i2, i3, i4, i5, i6, i7, i8⟩, by simpa using q0, by simpa using q1, by simpa using q2, by simpa using q3, by simpa using q4, by simpa using q5, by simpa using q6, by simpa using q7, by simpa using q8, by simpa using q9, by simpa using q10, by simpa using q11, by simpa using q12, by simpa using q13, by simpa using q14, ⟨iw_of m0, iw_of m1, iw_of m2, iw_of m3, iw_of l1, iw_of l2, iw_of l3, iw_of l4, iw_of l7, iw_of l8, by simp only; omega, by simp only; omega⟩⟩
    obtain ⟨_, c0, -⟩ := key 0 (by omega)
    obtain ⟨x, q0, q1, q2, q3, q4, q5, q6, q7, q8, q9, q10, q11, q12, q13, q14, hw⟩ := key i (by omega)
    obtain ⟨b, off, sp⟩ := y
    have e : (⟨b, off, sp⟩ : Addr).add (0 * 15) = ⟨b, off, sp⟩ := rfl
    rw [e] at c0
    obtain rfl := spot_none c0
    rw [addr_add] at q0 q1 q2 q3 q4 q5 q6 q7 q8 q9 q10 q11 q12 q13 q14
    exact ⟨b, off, x, rfl, lt_of_cell q0, ⟨q0, by simpa [Nat.add_assoc] using q1, by simpa [Nat.add_assoc] using q2, by simpa [Nat.add_assoc] using q3, by simpa [Nat.add_assoc] using q4, by simpa [Nat.add_assoc] using q5, by simpa [Nat.add_assoc] using q6, by simpa [Nat.add_assoc] using q7, by simpa [Nat.add_assoc] using q8, by simpa [Nat.add_assoc] using q9, by simpa [Nat.add_assoc] using q10, by simpa [Nat.add_assoc] using q11, by simpa [Nat.add_assoc] using q12, by simpa [Nat.add_assoc] using q13, by simpa [Nat.add_assoc] using q14, hw⟩⟩
end Go.Proofs.YtlngeaacjbdmhaaGreat.Bt

namespace Go.Proofs.YtlngeaacjbdmhaaGreat.Wl
open Go.RowKit
attribute [local go_sem ↓] Go.wp_at_zero Go.wp_at_succ
structure Pw (w W : World) (t m : Nat) (T : Tr) (B N : Nat) : Prop where
  q : Tq w.heap.size N W t T B
  ls : ∃ mb, Mt.Ls mb W m 1 0 []
  be : Below w.heap.size w W
section
variable {w W W' : World} {t m : Nat} {T : Tr} {B N : Nat}
theorem Pw.below (s : Pw w W t m T B N) (g : Below W.heap.size W W') : Pw w W' t m T B N := ⟨s.q.below g, let ⟨mb, h⟩ := s.ls; ⟨mb, h.below g⟩, s.be.trans (g.mono s.be.size)⟩
theorem Pw.alloc (s : Pw w W t m T B N) (o : Obj) : Pw w (W.alloc o) t m T B N := s.below ((Below.refl _ W).alloc (Nat.le_refl _) o)
theorem walk_P (s : Pw w W t m T B N) (hB : B ≤ 880) (path : Bytes) {F : Fd} {wy : Int} {ne : Option Pa} {x y : Int} {st : Nat} (hR : (E0 T).walk 0 1 path = ⟨ne, F, wy, x, y, st⟩) :
    Calls Tryz.prog 27 #[P0 t, P0 m, .agg #[I 0, I 1], .agg #[I 0, I 1], .agg #[I 0, I 0], .string (bs path), .bool true] W fun e w' => e = .returned (.tuple #[.agg #[I F.dm, I F.dn, .string (bs F.last), I F.am, I F.an, .bool F.has, .bool F.slash], I wy]) ∧ Hid (Below W.heap.size W w') := by
  obtain ⟨mb, ls⟩ := s.ls
  exact (Walk_any (Wd.of s.q hB ls) 0 1 (show (kl 1).wf = true by decide) (by decide) path _ hR)
theorem make_P (s : Pw w W t m T B N) (hB : B ≤ 878) (n : ByteArray) (kind mode : Int) (text : ByteArray) (hz : text.size ≤ 281474976710656) (x y : Int) (T' : Tr) (hx : T.makeN 1 n kind text = x) (hy : T.makeE 1 n kind text = y) (hT : T.make 1 n kind mode 0 0 text = T') :
    Calls Tryz.prog 62 #[P0 t, I 1, .string n, stV 0 kind mode 0 0 0 0, .string text] W fun e w' => e = .returned (.tuple #[I x, I y]) ∧ Hid (Pw w w' t m T' (B + 2) N) := by
  refine (make_Q s.q (by omega) (by decide) n 0 kind mode 0 0 0 0 text hz x y T' hx hy hT).mono ?_
  rintro e w' ⟨rfl, h1, h2⟩
  obtain ⟨mb, ls⟩ := s.ls
  exact ⟨rfl, ⟨unhide h1, ⟨mb, Ls_tx ls (unhide h2)⟩, s.be.trans (unhide h2).bel⟩⟩
theorem new_P (w : World) (nodes : Nat) (hn : 1 ≤ nodes ∧ nodes ≤ 64) :
    Calls Tryz.prog 16 #[I (nodes : Int), I 0] w fun e w' => ∃ t, e = .returned (.tuple #[P0 t, I 0]) ∧ Hid (Tq w.heap.size 0 w' t (Tr.new nodes 0) 1 ∧ Below w.heap.size w w') := by
  refine (new_Q nodes 0 hn (by omega) w).mono ?_
  rintro e w' ⟨t, rfl, h1, h2⟩
  exact ⟨t, rfl, unhide h1, unhide h2⟩
theorem newm_P {w1 : World} (h : Tq w.heap.size N w1 t T B ∧ Below w.heap.size w w1) :
    Calls Tryz.prog 96 #[I 1] w1 fun e w' => e = .returned (P0 w1.heap.size) ∧ Hid (Pw w w' t w1.heap.size T B N) := by
  refine (Mt.new_any 1 w1).mono ?_
  rintro e w' ⟨rfl, h1, h2⟩
  exact ⟨rfl, h.1.below h2, ⟨_, h1⟩, h.2.trans (h2.mono h.2.size)⟩
end
set_option maxHeartbeats 1000000 in
theorem known_any (w : World) : Calls Tryz.prog 33 #[] w fun e w' => e = .returned (.bool true) ∧ Below w.heap.size w w' := by
  have H0 := hide (new_P w 9 (by omega))
  have HT := hide top_any
  go_enter Tryz.func33, Tryz.ntmps33
  go_wp2_with fail
  refine (unhide H0).mono ?_
  rintro e w1 ⟨t, rfl, T1⟩
  clear H0
  go_wp2_with fail
  refine (newm_P (unhide T1)).mono ?_
  rintro e w2 ⟨rfl, P2⟩
  generalize w1.heap.size = m at *
  go_wp2_with fail
  refine (unhide HT w2).mono ?_
  rintro e w3 ⟨rfl, hB3⟩
  have P3 := hide ((unhide P2).below hB3)
  clear hB3 P2
  go_wp2_with fail
  refine (unhide HT w3).mono ?_
  rintro e w4 ⟨rfl, hB4⟩
  have P4 := hide ((unhide P3).below hB4)
  clear hB4 P3
  go_wp2_with fail
  refine (walk_P (unhide P4) (by omega) [47, 97, 47, 98] known_1).mono ?_
  rintro e w5 ⟨rfl, hB5⟩
  have P5 := hide (((unhide P4).below (unhide hB5)).alloc (.cells #[I 0, I 0, .string (bs []), I 0, I 0, .bool false, .bool false] 59))
  clear hB5 P4
  simp only [Fd.none]
  go_wp2_with fail
  refine (make_P (unhide P5) (by omega) ⟨#[97]⟩ 1 0 ⟨#[]⟩ (by decide) 2 0 T9a known_n.1 known_n.2 rfl).mono ?_
  rintro e w7 ⟨rfl, P7⟩
  clear P5
  go_wp2_with fail
  refine (unhide HT w7).mono ?_
  rintro e w8 ⟨rfl, hB8⟩
  have P8 := hide ((unhide P7).below hB8)
  clear hB8 P7
  go_wp2_with fail
  refine (unhide HT w8).mono ?_
  rintro e w9 ⟨rfl, hB9⟩
  have P9 := hide ((unhide P8).below hB9)
  clear hB9 P8
  go_wp2_with fail
  refine (walk_P (unhide P9) (by omega) [47, 97, 47, 98] known_2).mono ?_
  rintro e wa ⟨rfl, hBa⟩
  have Pa' := hide (((unhide P9).below (unhide hBa)).alloc (.cells #[I 0, I 2, .string (bs [98]), I 0, I 0, .bool false, .bool false] 59))
  clear hBa P9
  simp only []
  obtain ⟨wb, hwb, gb⟩ : ∃ wb, wa.alloc (.cells #[I 0, I 2, .string (bs [98]), I 0, I 0, .bool false, .bool false] 59) = wb ∧ wb.heap[wa.heap.size]? = some (.cells #[I 0, I 2, .string (bs [98]), I 0, I 0, .bool false, .bool false] 59) := ⟨_, rfl, heap_alloc_new _ _⟩
  rw [hwb] at Pa'
  have HGb := hide gb
  have HWb := hide hwb
  clear gb hwb
  go_wp2_with fail
  rw [unhide HWb]
  refine (unhide HT wb).mono ?_
  rintro e wc ⟨rfl, hBc⟩
  have Pc := hide (⟨(unhide Pa').below hBc, (hBc.block _ (lt_of_heap (unhide HGb))).trans (unhide HGb)⟩ : _ ∧ _)
  clear hBc Pa' HGb HWb
  go_wp2_with fail
  refine (unhide HT wc).mono ?_
  rintro e wd ⟨rfl, hBd⟩
  have Pd := hide (⟨(unhide Pc).1.below hBd, (hBd.block _ (lt_of_heap (unhide Pc).2)).trans (unhide Pc).2⟩ : _ ∧ _)
  clear hBd Pc
  go_wp2_with fail
  refine (walk_P (unhide Pd).1 (by omega) [47, 46, 46] known_3).mono ?_
  rintro e we ⟨rfl, hBe⟩
  simp only []
  obtain ⟨wf, hwf, gf, hBf⟩ : ∃ wf, we.alloc (.cells #[I 0, I 1, .string (bs []), I 0, I 1, .bool true, .bool false] 59) = wf ∧ wf.heap[we.heap.size]? = some (.cells #[I 0, I 1, .string (bs []), I 0, I 1, .bool true, .bool false] 59) ∧ Below we.heap.size we wf := ⟨_, rfl, heap_alloc_new _ _, (Below.refl _ _).alloc (Nat.le_refl _) _⟩
  have hBdf := (unhide hBe).trans (hBf.mono (unhide hBe).size)
  have Pf := (unhide Pd).1.below hBdf
  have gaf := (hBdf.block _ (lt_of_heap (unhide Pd).2)).trans (unhide Pd).2
  obtain ⟨x0, x1, x2, x3, x4, x5, x6, -⟩ := cells7 gaf
  obtain ⟨y0, y1, y2, y3, y4, y5, y6, -⟩ := cells7 gf
  have HPf := hide Pf
  have HTf := hide (unhide HT wf.drew)
  have HWf := hide hwf
  clear hBe Pd gf hBf hBdf Pf gaf hwf
  go_wp2_with fail
  rw [unhide HWf]
  go_region_held3 (fun w' => w'.cell? ⟨wa.heap.size, 0, none⟩ = some (I 0) ∧ w'.cell? ⟨wa.heap.size, 1, none⟩ = some (I 2) ∧ w'.cell? ⟨wa.heap.size, 2, none⟩ = some (.string (bs [98])) ∧ w'.cell? ⟨wa.heap.size, 3, none⟩ = some (I 0) ∧ w'.cell? ⟨wa.heap.size, 4, none⟩ = some (I 0) ∧ w'.cell? ⟨wa.heap.size, 5, none⟩ = some (.bool false) ∧ w'.cell? ⟨wa.heap.size, 6, none⟩ = some (.bool false) ∧ w'.cell? ⟨we.heap.size, 2, none⟩ = some (.string (bs [])) ∧ w'.cell? ⟨we.heap.size, 3, none⟩ = some (I 0) ∧ w'.cell? ⟨we.heap.size, 4, none⟩ = some (I 1) ∧ w'.cell? ⟨we.heap.size, 5, none⟩ = some (.bool true)) (go_keep)
    (first
      | (go_at_call 28; refine (unhide HTf).mono ?_; rintro e wg ⟨rfl, hBg⟩; have HBg := hide hBg; clear hBg; have a0 := cell_be (W := wf.drew) x0 (unhide HBg); have a1 := cell_be (W := wf.drew) x1 (unhide HBg); have a2 := cell_be (W := wf.drew) x2 (unhide HBg); have a3 := cell_be (W := wf.drew) x3 (unhide HBg); have a4 := cell_be (W := wf.drew) x4 (unhide HBg); have a5 := cell_be (W := wf.drew) x5 (unhide HBg); have a6 := cell_be (W := wf.drew) x6 (unhide HBg); have b2 := cell_be (W := wf.drew) y2 (unhide HBg); have b3 := cell_be (W := wf.drew) y3 (unhide HBg); have b4 := cell_be (W := wf.drew) y4 (unhide HBg); have b5 := cell_be (W := wf.drew) y5 (unhide HBg)))
  go_wp2_with fail
  go_ret
  exact ⟨rfl, ((unhide HPf).below ((below_drew (Below.refl _ _)).trans (unhide HBg))).be⟩
end Go.Proofs.YtlngeaacjbdmhaaGreat.Wl

namespace Go.Proofs.YtlngeaacjbdmhaaGreat.Bt
open Go.RowKit
theorem act_cells {W W' : World} {B b o : Nat} {x : Ac} (h : ActAt W b o x) (hb : b < B) (g : Below B W W') : W'.cell? ⟨b, o, none⟩ = some (I x.kind) ∧ W'.cell? ⟨b, o + 1, none⟩ = some (I x.dir) ∧ W'.cell? ⟨b, o + 2, none⟩ = some (I x.tq) ∧ W'.cell? ⟨b, o + 3, none⟩ = some (I x.n) ∧ W'.cell? ⟨b, o + 4, none⟩ = some (.string x.s) ∧ W'.cell? ⟨b, o + 5, none⟩ = some (.string x.ad) ∧ W'.cell? ⟨b, o + 6, none⟩ = some (I x.sn) ∧ W'.cell? ⟨b, o + 7, none⟩ = some (I x.kd) ∧ W'.cell? ⟨b, o + 8, none⟩ = some (I x.mo) ∧ W'.cell? ⟨b, o + 9, none⟩ = some (I x.ui) ∧ W'.cell? ⟨b, o + 10, none⟩ = some (I x.gi) ∧ W'.cell? ⟨b, o + 11, none⟩ = some (I x.li) ∧ W'.cell? ⟨b, o + 12, none⟩ = some (I x.si) ∧ W'.cell? ⟨b, o + 13, none⟩ = some (I x.am) ∧ W'.cell? ⟨b, o + 14, none⟩ = some (I x.an) := by
  have := h.below hb g
  exact ⟨this.c0, this.c1, this.c2, this.c3, this.c4, this.c5, this.c6, this.c7, this.c8, this.c9, this.c10, this.c11, this.c12, this.c13, this.c14⟩
theorem cellsF {W : World} {b : Nat} {ty : TypeId} {v0 v1 v2 v3 v4 v5 v6 : Value} (h : W.heap[b]? = some (.cells #[v0, v1, v2, v3, v4, v5, v6] ty)) : W.cell? ⟨b, 0, none⟩ = some v0 ∧ W.cell? ⟨b, 1, none⟩ = some v1 ∧ W.cell? ⟨b, 2, none⟩ = some v2 ∧ W.cell? ⟨b, 3, none⟩ = some v3 ∧ W.cell? ⟨b, 4, none⟩ = some v4 ∧ W.cell? ⟨b, 5, none⟩ = some v5 ∧ W.cell? ⟨b, 6, none⟩ = some v6 ∧ ∀ i, W.frozen? ⟨b, i, none⟩ = false := by
  refine ⟨?_, ?_, ?_, ?_, ?_, ?_, ?_, frozen_of h⟩ <;> (rw [cell_of h]; rfl)
end Go.Proofs.YtlngeaacjbdmhaaGreat.Bt
