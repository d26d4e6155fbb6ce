/-
  What a walk is told of what came in: a call, bytes, a text; the tables that lie.
-/
import Derived.Test.YtcopjhidijhlaaaCPureB
import Derived.ProofKit
import Derived.OpenShut
import Derived.ChangeOld
import Derived.Lib.LaidTab
namespace Go.Proofs.Ytcopjhidijhlaaa.Cl
open Go.ChangeShapes Go.WideShapes Go.ChangeAt Go.RowKit

theorem cells9 {W : World} {h : Nat} {t : TypeId} {a0 a1 a2 a3 a4 a5 a6 a7 a8 : Value} (c : W.heap[h]? = some (.cells #[a0, a1, a2, a3, a4, a5, a6, a7, a8] t)) :
    W.cell? ⟨h, 0, none⟩ = some a0 ∧ W.cell? ⟨h, 1, none⟩ = some a1 ∧ W.cell? ⟨h, 2, none⟩ = some a2 ∧ W.cell? ⟨h, 3, none⟩ = some a3 ∧ W.cell? ⟨h, 4, none⟩ = some a4 ∧ W.cell? ⟨h, 5, none⟩ = some a5 ∧ W.cell? ⟨h, 6, none⟩ = some a6 ∧ W.cell? ⟨h, 7, none⟩ = some a7 ∧ W.cell? ⟨h, 8, none⟩ = some a8 := by
  refine ⟨?_, ?_, ?_, ?_, ?_, ?_, ?_, ?_, ?_⟩ <;> (rw [cell_of c]; rfl)
theorem spot_none' {w : World} {b off : Nat} {sp : Option Nat} {v : Value} (h : w.cell? ⟨b, off, sp⟩ = some v) : sp = none := by
  unfold World.cell? at h
  cases sp with
  | none => rfl
  | some s => cases hq : w.heap[b]? with
    | none => simp [hq] at h
    | some o => cases o <;> simp [hq] at h
theorem lt_of_cell {w : World} {b off : Nat} {v : Value} (h : w.cell? ⟨b, off, none⟩ = some v) : b < w.heap.size := by
  rcases Nat.lt_or_ge b w.heap.size with h1 | h1
  · exact h1
  · simp [World.cell?, Array.getElem?_eq_none h1] at h
theorem cells5 : Try.prog.cellsOf 5 = 1 := by kernel_rfl
theorem cells3 : Try.prog.cellsOf 3 = 1 := by kernel_rfl
theorem cellsS : Try.prog.cellsOf 9 = 1 := by kernel_rfl
theorem cellsB : Try.prog.cellsOf 22 = 1 := by kernel_rfl
theorem cellsC : Try.prog.cellsOf 27 = 9 := by kernel_rfl
abbrev Iw (n : Int) : Prop := -9223372036854775808 ≤ n ∧ n ≤ 9223372036854775807
theorem iw_of {n : Int} (h : (Lit.int .i64 n).wf = true) : Iw n := by
  simp [Lit.wf, IntKind.signed, IntKind.bits, IntKind.min, IntKind.max] at h
  exact h
theorem u8_of {n : Int} (h : (Lit.int .u8 n).wf = true) : 0 ≤ n ∧ n ≤ 255 := by
  simp [Lit.wf, IntKind.signed, IntKind.bits, IntKind.min, IntKind.max] at h
  omega
theorem str_list (s : ByteArray) : (.string s : Value) = S s.data.toList := by
  obtain ⟨a⟩ := s
  simp
theorem str_len (s : ByteArray) : s.data.toList.length = s.size := by
  obtain ⟨a⟩ := s
  exact Array.length_toList
/-- Bytes that came in. -/
theorem bytes_of {H : Type} {enc : TypeId × Value → H} {w : World} {held : Bool} {fuel : Nat} {v : Value} {x : DataW H × List MemPlace}
    (h : DataW.trod enc Try.prog w 0 (fun _ => true) held fuel 22 [v] = some x) : ∃ (a : Option Addr) (l : List UInt8) (cap : Nat), v = .slice a l.length cap ∧ By w w.heap.size a l ∧ l.length ≤ cap ∧ cap ≤ maxLen ∧ (a = none → cap = 0) := by
  rcases open_ints Try.underlying22 Try.underlying5 cells5 h with ⟨hcs, _⟩ | ⟨y, l, c, zs, hcs, _, hlc, hcm, hzl, _, hzc, hwf⟩
  · simp at hcs
    exact ⟨none, [], 0, hcs, By.nil _ _ _, Nat.le_refl _, Nat.zero_le _, fun _ => rfl⟩
  · simp at hcs
    simp at hzl
    obtain ⟨yb, yo, ys⟩ := y
    have hlen : ((zs.take l).map fun z => UInt8.ofNat z.toNat).length = l := by simp; omega
    refine ⟨_, (zs.take l).map fun z => UInt8.ofNat z.toNat, c, by rw [hlen]; exact hcs, ?_, by rw [hlen]; exact hlc, hcm, fun e => by cases e⟩
    intro k b hk
    have hkl : k < l := by
      have := (List.getElem?_eq_some_iff.1 hk).1
      omega
    have c0 := hzc 0 (by omega)
    have e0 : (⟨yb, yo, ys⟩ : Addr).add 0 = ⟨yb, yo, ys⟩ := rfl
    rw [e0] at c0
    obtain rfl := spot_none' c0
    have ck := hzc k (by omega)
    rw [addAt] at ck
    refine ⟨yb, yo, rfl, lt_of_cell ck, ?_⟩
    rw [ck]
    have hkz : k < zs.length := by omega
    have hw := u8_of (hwf zs[k] (List.getElem_mem hkz))
    have e1 : zs.getD k 0 = zs[k] := by simp [List.getD, hkz]
    have e2 : b = UInt8.ofNat zs[k].toNat := by
      rw [List.getElem?_map, List.getElem?_take_of_lt hkl, List.getElem?_eq_getElem hkz] at hk
      exact (Option.some.inj hk).symm
    rw [e1, e2, UInt8.toNat_ofNat']
    congr 2
    omega
/-- A call that came in. -/
structure CallAt (w : World) (x : Cc) (a : Option Addr) (cap : Nat) : Prop where
  op : Iw x.op
  n : ∀ k, Iw (x.num k)
  pl : x.path.length ≤ maxLen
  dl : x.dst.length ≤ maxLen
  by' : By w w.heap.size a x.data
  hc : x.data.length ≤ cap
  hm : cap ≤ maxLen
set_option maxRecDepth 100000 in
theorem call_of {H : Type} {enc : TypeId × Value → H} {w : World} {r : Reach} {base : Nat} {held : Bool} {v : Value} {d : DataW H} {ps : List MemPlace}
    (hv : Value.okWide Try.prog w r base 27 v) (h : DataW.Trod enc Try.prog w 0 (fun _ => true) held 27 v d ps) : ∃ x a cap, v = .agg (Cc.cs x (.slice a x.data.length cap)) ∧ CallAt w x a cap := by
  obtain ⟨cs, rfl, hs⟩ := okWide_struct Try.underlying27 hv
  rw [cellsC] at hs
  obtain ⟨fuel, hf⟩ := h
  obtain ⟨xs, k, hk, hxy, _, hxl, hf⟩ := DataW.trod_struct Try.underlying27 hf
  match xs, hxl, cs, hs with
  | [y0, y1, y2, y3, y4, y5, y6, y7, y8], _, ⟨[v0, v1, v2, v3, v4, v5, v6, v7, v8]⟩, _ =>
    have g0 := hf 0 _ rfl
    have g1 := hf 1 _ rfl
    have g2 := hf 2 _ rfl
    have g3 := hf 3 _ rfl
    have g4 := hf 4 _ rfl
    have g5 := hf 5 _ rfl
    have g6 := hf 6 _ rfl
    have g7 := hf 7 _ rfl
    have g8 := hf 8 _ rfl
    simp [cells3, cellsS, cellsB, Value.cells] at g0 g1 g2 g3 g4 g5 g6 g7 g8
    obtain ⟨n0, e0, _, m0⟩ := DataW.trod_int Try.underlying3 g0
    obtain ⟨t1, e1, _, m1⟩ := DataW.trod_string Try.underlying9 g1
    obtain ⟨t2, e2, _, m2⟩ := DataW.trod_string Try.underlying9 g2
    obtain ⟨n3, e3, _, m3⟩ := DataW.trod_int Try.underlying3 g3
    obtain ⟨n4, e4, _, m4⟩ := DataW.trod_int Try.underlying3 g4
    obtain ⟨n5, e5, _, m5⟩ := DataW.trod_int Try.underlying3 g5
    obtain ⟨n6, e6, _, m6⟩ := DataW.trod_int Try.underlying3 g6
    obtain ⟨n7, e7, _, m7⟩ := DataW.trod_int Try.underlying3 g7
    obtain ⟨a, l, cap, rfl, h1, h2, h3, -⟩ := bytes_of g8
    simp at e0 e1 e2 e3 e4 e5 e6 e7
    subst e0 e1 e2 e3 e4 e5 e6 e7
    refine ⟨⟨n0, t1.data.toList, t2.data.toList, n3, n4, n5, n6, n7, l⟩, a, cap, ?_, ⟨iw_of m0, ?_, ?_, ?_, h1, h2, h3⟩⟩
    · rw [str_list t1, str_list t2]
    · intro k
      match k with
      | 0 => exact iw_of m3
      | 1 => exact iw_of m4
      | 2 => exact iw_of m5
      | 3 => exact iw_of m6
      | (j + 4) => exact iw_of m7
    · exact Nat.le_trans (Nat.le_of_eq (str_len t1)) m1
    · exact Nat.le_trans (Nat.le_of_eq (str_len t2)) m2
end Go.Proofs.Ytcopjhidijhlaaa.Cl
