/-
  What the rows' lists give: the tables.
-/
import Derived.Test.YtnkkfomekdipiaaDoorCIn
namespace Go.Proofs.YtnkkfomekdipiaaDoor.Cl
open Go.ChangeShapes Go.WideShapes Go.ChangeAt Go.RowKit

theorem gOps : Tryd.prog.globalNamed "warren/call.opNames" = some 0 := by kernel_rfl
theorem gOpsT : (Tryd.prog.globals[0]?).map (·.type) = some 92 := by kernel_rfl
theorem gPow : Tryd.prog.globalNamed "internal/strconv.uint64pow10" = some 1 := by kernel_rfl
theorem gPowT : (Tryd.prog.globals[1]?).map (·.type) = some 107 := by kernel_rfl
theorem cellsA20 : Tryd.prog.cellsOf 92 = 20 := by kernel_rfl
theorem cellsPow : Tryd.prog.cellsOf 107 = 20 := by kernel_rfl
theorem cellsU64 : Tryd.prog.cellsOf 98 = 1 := by kernel_rfl
theorem powData : (Rows.laid_internal_strconv_uint64pow10 : DataW Unit) = Lib.tabData .u64 Lib.pow10Tab := by kernel_rfl
theorem tabBelow {W : World} (h : Lib.TabIs Tryd.prog W "internal/strconv.uint64pow10" .u64 Lib.pow10Tab) (hs : 1 < W.heap.size) : Tab W.heap.size W := by
  intro w' hb
  unfold Lib.TabIs World.var? at h ⊢
  rw [gPow] at h ⊢
  simp only [Option.bind_some] at h ⊢
  rw [hb.block 1 hs]
  exact h
set_option maxRecDepth 100000 in
theorem on_of {W : World} {cs : Array Value} {fuel : Nat} {p : List MemPlace} {sp : Nat → Bool} {held : Bool} {enc : TypeId × Value → Unit} (hv : W.var? Tryd.prog "warren/call.opNames" = some cs) (hd : DataW.trod enc Tryd.prog W 0 sp held fuel 92 cs.toList = some (Rows.laid_warren_call_opNames, p)) : On W ∧ 0 < W.heap.size := by
  obtain ⟨xs, m, -, hx, hl, hxl, hel⟩ := DataW.trod_array Tryd.underlying92 hd
  have hm : xs.map (·.1) = onames.map fun t => (.lit (.string t) : DataW Unit) := by
    simp only [Prod.mk.injEq] at hx
    have h1 := hx.1
    have h2 : (Rows.laid_warren_call_opNames : DataW Unit) = .agg (onames.map fun t => .lit (.string t)) := rfl
    rw [h2] at h1
    exact (DataW.agg.inj h1).symm
  have hcell : ∀ (k : Nat) (t : List UInt8), onames[k]? = some t → W.cell? ⟨0, k, none⟩ = some (S t) := by
    intro k t hk
    have hk20 : k < 20 := by
      have := (List.getElem?_eq_some_iff.1 hk).1
      simpa [onames] using this
    have h1 := hel k hk20
    rw [cellsS, Nat.mul_one] at h1
    rw [List.getElem?_eq_getElem (show k < xs.length by omega)] at h1
    obtain ⟨s, hs, hxs, -⟩ := DataW.trod_string Tryd.underlying9 h1
    have h3 : (xs.map (·.1))[k]? = some (.lit (.string s.data.toList)) := by
      rw [List.getElem?_map, List.getElem?_eq_getElem (show k < xs.length by omega)]
      show some xs[k].1 = _
      rw [hxs]
    rw [hm, List.getElem?_map, hk] at h3
    have h4 : t = s.data.toList := by
      have := Option.some.inj h3
      simpa using this
    rw [h4, ← str_list s]
    have h5 := World.var?_cell gOps hv k
    rw [h5]
    have h6 := congrArg (·[0]?) hs
    simpa [List.getElem?_take, List.getElem?_drop] using h6
  exact ⟨hcell, lt_of_cell (hcell 0 _ rfl)⟩
set_option maxRecDepth 100000 in
theorem laid_of {W : World} (h : laidMetH Tryd.prog Rows.callNumbersRow.laid W) : Lai W := by
  have h1 : laidMet Tryd.prog Rows.callNumbersRow.laid W := h
  obtain ⟨ps, hv, -⟩ := h1
  obtain ⟨g1, t1, c1, f1, p1, q1, _, _, _, _, hv2, _⟩ := hv
  obtain ⟨g2, t2, c2, f2, p2, q2, _, _, _, _, hv3, _⟩ := hv2
  obtain ⟨g3, t3, c3, f3, p3, q3, hg3, ht3, hvar3, hd3, hv4, _⟩ := hv3
  obtain ⟨g4, t4, c4, f4, p4, q4, hg4, ht4, hvar4, hd4, _, _⟩ := hv4
  obtain rfl := Option.some.inj (gPow.symm.trans hg3)
  obtain rfl := Option.some.inj (gPowT.symm.trans ht3)
  obtain rfl := Option.some.inj (gOps.symm.trans hg4)
  obtain rfl := Option.some.inj (gOpsT.symm.trans ht4)
  rw [powData] at hd3
  have htab : Lib.TabIs Tryd.prog W "internal/strconv.uint64pow10" .u64 Lib.pow10Tab := by
    unfold Lib.TabIs
    rw [hvar3, ← Lib.cells_of_tab Tryd.underlying107 Tryd.underlying98 cellsU64 cellsPow hd3]
  obtain ⟨ho, h0⟩ := on_of hvar4 hd4
  have h1 : 1 < W.heap.size := lt_of_cell (htab.cell gPow 0 (by decide))
  exact ⟨ho, tabBelow htab h1, h0⟩
end Go.Proofs.YtnkkfomekdipiaaDoor.Cl
