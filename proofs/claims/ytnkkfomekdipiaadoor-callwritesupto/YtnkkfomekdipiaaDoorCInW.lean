/-
  A result that came in; what the bound of the second form gives.
-/
import Derived.Test.YtnkkfomekdipiaaDoorCInB
import Derived.Test.YtnkkfomekdipiaaDoorCWrites
import Derived.SliceStrings
namespace Go.Proofs.YtnkkfomekdipiaaDoor.Cl
open Go.ChangeShapes Go.WideShapes Go.ChangeAt Go.RowKit

theorem bulk_one {H : Type} (d : DataW H) : 1 ≤ Rows.uptoBulk d := by
  cases d with
  | lit l => cases l <;> simp [Rows.uptoBulk]
  | nil => simp [Rows.uptoBulk]
  | ptr d => simp [Rows.uptoBulk]
  | slice e s => simp [Rows.uptoBulk]
  | agg p => simp [Rows.uptoBulk]
  | iface t d => simp [Rows.uptoBulk]
  | map e => simp [Rows.uptoBulk]
  | held h => simp [Rows.uptoBulk]
theorem bulk_len {H : Type} (l : List (DataW H)) : l.length ≤ Rows.uptoBulkAll l := by
  induction l with
  | nil => simp
  | cons x r ih => have := bulk_one x; simp only [Rows.uptoBulkAll, List.length_cons]; omega
theorem rdg_len {H : Type} {d : DataW H} {l : List UInt8} (h : Rdg d l) : l.length ≤ Rows.uptoBulk d := by
  rcases h with ⟨-, rfl⟩ | ⟨e, s, rfl, hl⟩
  · simp
  · have := bulk_len e
    simp only [Rows.uptoBulk]
    omega
/-- How long the parts of a call are at most. -/
def Cc.bulk (x : Cc) : Nat := x.path.length + x.dst.length + x.data.length
set_option maxRecDepth 100000 in
theorem call_of2 {H : Type} {enc : TypeId × Value → H} {w : World} {r : Reach} {base : Nat} {held : Bool} {v : Value} {d : DataW H} {ps : List MemPlace}
    (hv : Value.okWide Tryd.prog w r base 27 v) (h : DataW.Trod enc Tryd.prog w 0 (fun _ => true) held 27 v d ps) : ∃ x a cap, v = .agg (Cc.cs x (.slice a x.data.length cap)) ∧ CallAt w x a cap ∧ x.bulk ≤ Rows.uptoBulk d := by
  obtain ⟨cs, rfl, hs⟩ := okWide_struct Tryd.underlying27 hv
  rw [cellsC] at hs
  obtain ⟨fuel, hf⟩ := h
  obtain ⟨xs, k, hk, hxy, _, hxl, hf⟩ := DataW.trod_struct Tryd.underlying27 hf
  match xs, hxl, cs, hs with
  | [y0, y1, y2, y3, y4, y5, y6, y7, y8], _, ⟨[v0, v1, v2, v3, v4, v5, v6, v7, v8]⟩, _ =>
    have g0 := hf 0 _ rfl
    have g1 := hf 1 _ rfl
    have g2 := hf 2 _ rfl
    have g3 := hf 3 _ rfl
    have g4 := hf 4 _ rfl
    have g5 := hf 5 _ rfl
    have g6 := hf 6 _ rfl
    have g7 := hf 7 _ rfl
    have g8 := hf 8 _ rfl
    simp [cells3, cellsS, cellsB, Value.cells] at g0 g1 g2 g3 g4 g5 g6 g7 g8
    obtain ⟨n0, e0, _, m0⟩ := DataW.trod_int Tryd.underlying3 g0
    obtain ⟨t1, e1, d1, m1⟩ := DataW.trod_string Tryd.underlying9 g1
    obtain ⟨t2, e2, d2, m2⟩ := DataW.trod_string Tryd.underlying9 g2
    obtain ⟨n3, e3, _, m3⟩ := DataW.trod_int Tryd.underlying3 g3
    obtain ⟨n4, e4, _, m4⟩ := DataW.trod_int Tryd.underlying3 g4
    obtain ⟨n5, e5, _, m5⟩ := DataW.trod_int Tryd.underlying3 g5
    obtain ⟨n6, e6, _, m6⟩ := DataW.trod_int Tryd.underlying3 g6
    obtain ⟨n7, e7, _, m7⟩ := DataW.trod_int Tryd.underlying3 g7
    obtain ⟨a, l, cap, rfl, ⟨h1, h2, h3, -⟩, f8⟩ := bytes_of2 g8
    simp at e0 e1 e2 e3 e4 e5 e6 e7
    subst e0 e1 e2 e3 e4 e5 e6 e7
    refine ⟨⟨n0, t1.data.toList, t2.data.toList, n3, n4, n5, n6, n7, l⟩, a, cap, ?_, ⟨iw_of m0, ?_, ?_, ?_, h1, h2, h3⟩, ?_⟩
    · rw [str_list t1, str_list t2]
    · intro k
      match k with
      | 0 => exact iw_of m3
      | 1 => exact iw_of m4
      | 2 => exact iw_of m5
      | 3 => exact iw_of m6
      | (j + 4) => exact iw_of m7
    · exact Nat.le_trans (Nat.le_of_eq (str_len t1)) m1
    · exact Nat.le_trans (Nat.le_of_eq (str_len t2)) m2
    · simp only [Prod.mk.injEq] at hxy
      rw [hxy.1, d1, d2]
      have h8 := rdg_len f8
      simp only [List.map_cons, List.map_nil, Rows.uptoBulk, Rows.uptoBulkAll, Cc.bulk]
      omega
theorem names_bulk {H : Type} (ss : List ByteArray) : namL (ss.map fun s => s.data.toList) ≤ 3 * Rows.uptoBulkAll (strs (H := H) ss) := by
  induction ss with
  | nil => simp [namL]
  | cons x r ih =>
    simp only [strs, List.map_cons, namL, Rows.uptoBulkAll, Rows.uptoBulk] at *
    omega
theorem ns_of {H : Type} {enc : TypeId × Value → H} {w : World} {held : Bool} {fuel : Nat} {v : Value} {x : DataW H × List MemPlace}
    (h : DataW.trod enc Tryd.prog w 0 (fun _ => true) held fuel 33 [v] = some x) : ∃ (a : Option Addr) (ns : List (List UInt8)) (cap : Nat), v = .slice a ns.length cap ∧ Ns w w.heap.size a ns ∧ namL ns ≤ 3 * Rows.uptoBulk x.1 := by
  rcases open_strings Tryd.underlying33 Tryd.underlying9 cellsS h with ⟨hcs, hx⟩ | ⟨y, l, c, zs, hcs, _, hlc, hcm, hzl, hx, hzc, -⟩
  · simp at hcs
    exact ⟨none, [], 0, hcs, Ns.nil _ _ _, by simp [namL]⟩
  · simp at hcs
    simp at hzl
    obtain ⟨yb, yo, ys⟩ := y
    have hlen : ((zs.take l).map fun s => s.data.toList).length = l := by simp; omega
    refine ⟨_, (zs.take l).map fun s => s.data.toList, c, by rw [hlen]; exact hcs, ?_, ?_⟩
    · intro k t hk
      have hkl : k < l := by
        have := (List.getElem?_eq_some_iff.1 hk).1
        omega
      have c0 := hzc 0 (by omega)
      have e0 : (⟨yb, yo, ys⟩ : Addr).add 0 = ⟨yb, yo, ys⟩ := rfl
      rw [e0] at c0
      obtain rfl := spot_none' c0
      have ck := hzc k (by omega)
      rw [addAt] at ck
      refine ⟨yb, yo, rfl, lt_of_cell ck, ?_⟩
      rw [ck]
      have hkz : k < zs.length := by omega
      have e1 : zs.getD k ByteArray.empty = zs[k] := by simp [List.getD, hkz]
      have e2 : t = zs[k].data.toList := by
        rw [List.getElem?_map, List.getElem?_take_of_lt hkl, List.getElem?_eq_getElem hkz] at hk
        exact (Option.some.inj hk).symm
      rw [e1, e2, str_list]
    · rw [hx]
      have h1 := names_bulk (H := H) (zs.take l)
      simp only [Rows.uptoBulk]
      omega
theorem cellsE : Tryd.prog.cellsOf 23 = 1 := by kernel_rfl
theorem cellsN : Tryd.prog.cellsOf 33 = 1 := by kernel_rfl
theorem cellsT : Tryd.prog.cellsOf 35 = 7 := by kernel_rfl
theorem cellsR : Tryd.prog.cellsOf 37 = 11 := by kernel_rfl
set_option maxRecDepth 100000 in
theorem result_of {H : Type} {enc : TypeId × Value → H} {w : World} {r : Reach} {base : Nat} {held : Bool} {v : Value} {d : DataW H} {ps : List MemPlace}
    (hv : Value.okWide Tryd.prog w r base 37 v) (h : DataW.Trod enc Tryd.prog w 0 (fun _ => true) held 37 v d ps) : ∃ (x : Rr) (a : Option Addr) (cap : Nat) (b : Option Addr) (mcap : Nat), v = .agg (x.cs (.slice a x.data.length cap) (.slice b x.names.length mcap)) ∧ ResAt w x a cap b mcap ∧ (3 * x.data.length + namL x.names ≤ 6 * Rows.uptoBulk d → Rows.uptoBulk d ≤ 1048576 → x.fits) ∧ 3 * x.data.length + namL x.names ≤ 6 * Rows.uptoBulk d := by
  obtain ⟨cs, rfl, hs⟩ := okWide_struct Tryd.underlying37 hv
  rw [cellsR] at hs
  obtain ⟨fuel, hf⟩ := h
  obtain ⟨xs, k, hk, hxy, _, hxl, hf⟩ := DataW.trod_struct Tryd.underlying37 hf
  match xs, hxl, cs, hs with
  | [y0, y1, y2, y3, y4], _, ⟨[v0, v1, v2, v3, v4, v5, v6, v7, v8, v9, v10]⟩, _ =>
    have g0 := hf 0 _ rfl
    have g1 := hf 1 _ rfl
    have g2 := hf 2 _ rfl
    have g3 := hf 3 _ rfl
    have g4 := hf 4 _ rfl
    simp [cells3, cellsB, cellsE, cellsN, cellsT, Value.cells] at g0 g1 g2 g3 g4
    obtain ⟨n0, e0, _, m0⟩ := DataW.trod_int Tryd.underlying23 g0
    obtain ⟨n1, e1, _, m1⟩ := DataW.trod_int Tryd.underlying3 g1
    obtain ⟨a, l, cap, rfl, ⟨h1, h2, h3, -⟩, f2⟩ := bytes_of2 g2
    obtain ⟨b, ns, mcap, rfl, hns, f3⟩ := ns_of g3
    obtain ⟨zs, k2, hk2, _, _, hzl, hz⟩ := DataW.trod_struct Tryd.underlying35 g4
    match zs, hzl with
    | [z0, z1, z2, z3, z4, z5, z6], _ =>
    have i0 := hz 0 _ rfl
    have i1 := hz 1 _ rfl
    have i2 := hz 2 _ rfl
    have i3 := hz 3 _ rfl
    have i4 := hz 4 _ rfl
    have i5 := hz 5 _ rfl
    have i6 := hz 6 _ rfl
    simp [cells3] at i0 i1 i2 i3 i4 i5 i6
    obtain ⟨p0, u0, _, w0⟩ := DataW.trod_int Tryd.underlying3 i0
    obtain ⟨p1, u1, _, w1⟩ := DataW.trod_int Tryd.underlying3 i1
    obtain ⟨p2, u2, _, w2⟩ := DataW.trod_int Tryd.underlying3 i2
    obtain ⟨p3, u3, _, w3⟩ := DataW.trod_int Tryd.underlying3 i3
    obtain ⟨p4, u4, _, w4⟩ := DataW.trod_int Tryd.underlying3 i4
    obtain ⟨p5, u5, _, w5⟩ := DataW.trod_int Tryd.underlying3 i5
    obtain ⟨p6, u6, _, w6⟩ := DataW.trod_int Tryd.underlying3 i6
    simp at e0 e1 u0 u1 u2 u3 u4 u5 u6
    subst e0 e1 u0 u1 u2 u3 u4 u5 u6
    refine ⟨⟨n0, n1, l, ns, p0, p1, p2, p3, p4, p5, p6⟩, a, cap, b, mcap, rfl, ⟨h1, hns⟩, fun hl hb => ⟨iw_of m0, iw_of m1, iw_of w0, iw_of w1, iw_of w2, iw_of w3, iw_of w4, iw_of w5, iw_of w6, by simp only at hl ⊢; omega⟩, ?_⟩
    simp only [Prod.mk.injEq] at hxy
    rw [hxy.1]
    have h8 := rdg_len f2
    simp only [List.map_cons, List.map_nil, Rows.uptoBulk, Rows.uptoBulkAll]
    omega
end Go.Proofs.YtnkkfomekdipiaaDoor.Cl
