/-
  The contract of remove: the entry is taken out of its row.
-/
import Derived.Test.YtjcjibjagjiedaaDel
import Derived.Test.YtjcjibjagjiedaaFind
namespace Go.Proofs.Ytjcjibjagjiedaa
open Go.RowKit
attribute [local go_sem ↓] Go.wp_at_zero Go.wp_at_succ

theorem own_keepAt {W W' : World} {base : Nat} {e : TypeId} {s n : Nat} {v : Value} {xs : List Value} (h : W.ownsRow base e s v n xs) (hb : ∀ k, v.ownBlock = some k → W'.heap[k]? = W.heap[k]?) : W'.ownsRow base e s v n xs := by
  obtain ⟨h0, h1⟩ := h
  refine ⟨h0, ?_⟩
  rcases h1 with h1 | ⟨g, cap, cur, rfl, h2, h3, h4⟩
  · exact .inl h1
  · exact .inr ⟨g, cap, cur, rfl, h2, (hb g rfl).trans h3, h4⟩
/-- The entries without the i-th. -/
def era (es : Ents) (i : Nat) : Ents := es.take i ++ es.drop (i + 1)
theorem era_len {es : Ents} {i : Nat} (h : i < es.length) : (era es i).length = es.length - 1 := by simp [era]; omega
theorem era_len_le (es : Ents) (i : Nat) : (era es i).length ≤ es.length := by simp [era]; omega
set_option maxRecDepth 100000 in
set_option maxHeartbeats 1000000 in
theorem remove_full (base b i : Nat) (mo : Int) (es : Ents) (k : ByteArray) (v : Int) (w : World) (h : Ls base w b mo es) (hi : es[i]? = some (k, v)) (hes : es.length ≤ 1000) :
    Calls Try.prog 32 #[.pointer (some ⟨b, 0, none⟩), .int .i64 (i : Int)] w fun e w' => e = .returned (.agg #[.string k, .int .i64 v]) ∧ (Ls base w' b mo (era es i) ∧ Fr base b w w') ∧ ∃ g cap, w.cell? ⟨b, 1, none⟩ = some (.slice (some ⟨g, 0, none⟩) es.length cap) ∧ w'.cell? ⟨b, 1, none⟩ = some (.slice (some ⟨g, 0, none⟩) (era es i).length cap) ∧ ∀ j, j < w.heap.size → j ≠ b → j ≠ g → w'.heap[j]? = w.heap[j]? := by
  have hil := (List.getElem?_eq_some_iff.1 hi).1
  obtain ⟨V, hV, hsz, g0, g1, hB⟩ := two0 w (.cells #[.string ⟨#[]⟩, .int .i64 0] 54) (.cells #[.string k, .int .i64 v] 54)
  have hV2 := h.below hB
  obtain ⟨a, cap, a0, a1, af, own⟩ := h.cells
  obtain ⟨g, rfl, c0, c1, cf, hgl⟩ := own_at own hi rfl
  obtain ⟨a', cap', b0, b1, bf, own2⟩ := hV2.cells
  have e1 := (World.cell?_of_block (a := ⟨b, 1, none⟩) (hB.block b h.lt)).trans a1
  rw [b1] at e1
  simp only [Option.some.injEq, Value.slice.injEq] at e1
  obtain ⟨rfl, -, rfl⟩ := e1
  have HD := hide (delete_any base g es.length cap' i es V rfl own2 hil)
  have HL := hide hV2
  have HH := hide h
  have hgb : g ≠ b := by
    rintro rfl
    obtain ⟨_, _, q1, _⟩ := h.hb
    obtain ⟨_, cp, cur, q2, _, q3, _⟩ := own_open own (by omega)
    simp only [Value.slice.injEq, Option.some.injEq, Addr.mk.injEq] at q2
    obtain ⟨⟨rfl, -, -⟩, -, -⟩ := q2
    rw [q1] at q3; simp at q3
  have hgbase : base ≤ g := by
    obtain ⟨_, cp, cur, q2, q4, q3, _⟩ := own_open own (by omega)
    simp only [Value.slice.injEq, Option.some.injEq, Addr.mk.injEq] at q2
    obtain ⟨⟨rfl, -, -⟩, -, -⟩ := q2
    exact q4
  have j0 : (0 : Int) ≤ (i : Int) := by omega
  have j1 : (i : Int) < (es.length : Int) := by omega
  have HO := hide own
  have hbl := h.lt
  have hbb := h.kb
  clear h own hi hV2 own2 a0 b0
  generalize hm : es.length = m at *
  replace hm := hide hm
  go_enter Try.func32, Try.ntmps32
  go_wp2_with fail
  refine (unhide HD).mono ?_
  rintro e w1 ⟨rfl, own3, D⟩
  have hk1 : ∀ j, j ≠ g → w1.heap[j]? = V.heap[j]? := D.blk
  have y0 : w1.heap[w.heap.size]? = some (.cells #[.string ⟨#[]⟩, .int .i64 0] 54) := (hk1 _ (by omega)).trans g0
  have y1 : w1.heap[w.heap.size + 1]? = some (.cells #[.string k, .int .i64 v] 54) := (hk1 _ (by omega)).trans g1
  obtain ⟨_, _, yb, _⟩ := (unhide HL).hb
  have yb1 := (hk1 b (Ne.symm hgb)).trans yb
  have L3 : (w1.setCell ⟨b, 1, none⟩ (.slice (some ⟨g, 0, none⟩) (m - 1) cap')).heap[b]? = some (.cells #[.int .i64 mo, .slice (some ⟨g, 0, none⟩) (era es i).length cap'] 47) ∧ (w1.setCell ⟨b, 1, none⟩ (.slice (some ⟨g, 0, none⟩) (m - 1) cap')).ownsRow base 54 2 (.slice (some ⟨g, 0, none⟩) (era es i).length cap') (era es i).length (rowsOf row (era es i)) := by
    refine ⟨?_, ?_⟩
    · rw [heap_set yb1, era_len (by rw [unhide hm]; exact hil), unhide hm]; simp
    · rw [era_len (by rw [unhide hm]; exact hil), unhide hm]
      refine own_keep own3 fun j cur hc => Below.heap_setCell _ _ _ _ ?_
      rintro rfl
      rw [yb1] at hc
      simp at hc
  have F3 : Fr base b w (w1.setCell ⟨b, 1, none⟩ (.slice (some ⟨g, 0, none⟩) (m - 1) cap')) := by
    obtain ⟨_, cp, cur, q2, q4, q3, _⟩ := own_open (unhide HO) (by omega)
    simp only [Value.slice.injEq, Option.some.injEq, Addr.mk.injEq] at q2
    obtain ⟨⟨rfl, -, -⟩, -, -⟩ := q2
    refine Fr.set (p := ⟨b, 1, none⟩) ⟨D.os.trans hB.os, D.tape.trans hB.tape, D.output.trans hB.output, by rw [D.size]; exact hB.size, fun j hj => (hk1 j (by omega)).trans (hB.block j (by omega)), fun j o h1 h2 h3 => (hk1 j ?_).trans ((hB.block j (lt_of_heap h1)).trans h1)⟩ rfl hbb _
    rintro rfl
    rw [q3] at h1
    exact h3 _ (Option.some.inj h1).symm
  have z0 : w1.cell? ⟨b, 1, none⟩ = some (.slice (some ⟨g, 0, none⟩) m cap') := (World.cell?_of_block (a := ⟨b, 1, none⟩) (hk1 b (Ne.symm hgb))).trans b1
  have zf : w1.frozen? ⟨b, 1, none⟩ = false := frozen_of yb1 1
  have z1 : w1.cell? ⟨w.heap.size + 1, 0, none⟩ = some (.string k) := by rw [cell_of y1]; rfl
  have z2 : w1.cell? ⟨w.heap.size + 1, 1, none⟩ = some (.int .i64 v) := by rw [cell_of y1]; rfl
  have z3 : w1.cell? ⟨w.heap.size, 0, none⟩ = some (.string ⟨#[]⟩) := by rw [cell_of y0]; rfl
  have z4 : w1.cell? ⟨w.heap.size, 1, none⟩ = some (.int .i64 0) := by rw [cell_of y0]; rfl
  have zf0 : ∀ j, w1.frozen? ⟨w.heap.size, j, none⟩ = false := frozen_of y0
  have hne : w.heap.size ≠ b := by omega
  have hne1 : w.heap.size + 1 ≠ b := by omega
  have HL3 := hide L3
  have HK3 := hide (show ∀ j, j < w.heap.size → j ≠ b → j ≠ g → (w1.setCell ⟨b, 1, none⟩ (.slice (some ⟨g, 0, none⟩) (m - 1) cap')).heap[j]? = w.heap[j]? from fun j h1 h2 h3 => (Below.heap_setCell _ _ _ _ h2).trans ((hk1 j h3).trans (hB.block j h1)))
  have HA1 := hide a1
  have HF3 := hide F3
  have Hy0 := hide y0
  generalize hsw : w.heap.size = hs at *
  replace hsw := hide hsw
  clear L3 F3 y0 y1 yb yb1 own3 hk1 D HD HL HH HO hV hB g0 g1 a1 b1 bf af c0 c1 cf hsz
  go_wp2_with fail
  have x0 : (w1.setCell ⟨b, 1, none⟩ (.slice (some ⟨g, 0, none⟩) (m - 1) cap')).heap[hs]? = some (.cells #[.string ⟨#[]⟩, .int .i64 0] 54) := (Below.heap_setCell _ _ _ _ hne).trans (unhide Hy0)
  generalize w1.setCell ⟨b, 1, none⟩ (.slice (some ⟨g, 0, none⟩) (m - 1) cap') = w2 at *
  have x1 : ((w2.setCell ⟨hs, 0, none⟩ (.string k)).setCell ⟨hs, 1, none⟩ (.int .i64 v)).heap[hs]? = some (.cells #[.string k, .int .i64 v] 54) := by
    rw [heap_set (heap_set x0 0 _)]; simp
  have r0 : ((w2.setCell ⟨hs, 0, none⟩ (.string k)).setCell ⟨hs, 1, none⟩ (.int .i64 v)).cell? ⟨hs, 0, none⟩ = some (.string k) := by rw [cell_of x1]; rfl
  have r1 : ((w2.setCell ⟨hs, 0, none⟩ (.string k)).setCell ⟨hs, 1, none⟩ (.int .i64 v)).cell? ⟨hs, 1, none⟩ = some (.int .i64 v) := by rw [cell_of x1]; rfl
  have hkk : ∀ j, j ≠ hs → ((w2.setCell ⟨hs, 0, none⟩ (.string k)).setCell ⟨hs, 1, none⟩ (.int .i64 v)).heap[j]? = w2.heap[j]? := fun j hj => (Below.heap_setCell _ _ _ _ hj).trans (Below.heap_setCell _ _ _ _ hj)
  refine bodyPost_ret (v := .agg #[.string k, .int .i64 v]) (by simp [results, Try.results32, go_sem, r0, r1]) rfl ⟨rfl, ⟨?_, ?_⟩, g, cap', unhide HA1, by rw [cell_of ((hkk b (by omega)).trans (unhide HL3).1)]; rfl, fun j h1 h2 h3 => (hkk j (by have := unhide hsw; omega)).trans (unhide HK3 j (by have := unhide hsw; omega) h2 h3)⟩
  · obtain ⟨l1, l2⟩ := unhide HL3
    exact ⟨⟨_, _, (hkk b (by omega)).trans l1, own_keepAt l2 fun j hj => hkk j (by simp [Value.ownBlock] at hj; omega)⟩, hbb⟩
  · have F := unhide HF3
    exact ⟨F.os, F.tape, F.output, by simpa [World.setCell] using F.size, fun j hj => (hkk j (by omega)).trans (F.low j hj), fun j o h1 h2 h3 => (hkk j (by have := lt_of_heap h1; have := unhide hsw; omega)).trans (F.blk j o h1 h2 h3)⟩
theorem remove_any (base b i : Nat) (mo : Int) (es : Ents) (k : ByteArray) (v : Int) (w : World) (h : Ls base w b mo es) (hi : es[i]? = some (k, v)) (hes : es.length ≤ 1000) :
    Calls Try.prog 32 #[.pointer (some ⟨b, 0, none⟩), .int .i64 (i : Int)] w fun e w' => e = .returned (.agg #[.string k, .int .i64 v]) ∧ Ls base w' b mo (era es i) ∧ Fr base b w w' :=
  (remove_full base b i mo es k v w h hi hes).mono fun _ _ ⟨he, h1, _⟩ => ⟨he, h1⟩
end Go.Proofs.Ytjcjibjagjiedaa
